import PyProof.Rows.All
import Wide.All
import OpenK.AllK
import Wide.FinOn
import PySem.Challenge.RW_wholeshares_k06_whole_fairness_by_its_co
import HandS.ForMost
import HandS.ForExc
import HandS.Codes
import HandS.Gcd
import HandS.Wide
import HandS.WideBits
import HandS.RaiseMore
import HandS.StrMore
import HandS.FStr
import HandS.IsInst
import HandS.Flow
import HandS.Style
import HandS.SortInts
import PyProof.ReprRoads
import KE.GoesEnum
import KE.GoesMore
import HandS.Iter
import HandS.Star
import HandS.ClsMeth
import KE.KStar
import HandS.SetFor
import HandS.Strs
import HandS.Deep
import HandS.TupAny
import HandS.TupMul
import HandS.Conv
import KE.DataMinMax
import HandS.Steps
import PyProof.ReprReads
import KE.GoesEnumKw
import HandS.SortKw
import HandS.Walk
import HandS.Rev
import HandS.Zip
import HandS.ExcInit
import HandS.ExcField
import HandS.ExcIs
import HandS.Lambda
import KE.KExcIs
import KE.GoesZip
import PyProof.MinMaxWalk
import PyProof.WalkInts
import HandS.OwnEq
import HandS.More
import PyProof.InstEq
import KE.KCallOwn
import PyProof.ZipIter
import PyProof.CallType
import PyProof.TupleOfSeq
import PyProof.RulesTry
import PyProof.ReprLoop
import PyProof.ReprLen
set_option Elab.async false
set_option linter.all false
set_option maxRecDepth 100000
set_option maxHeartbeats 4000100
/-! views of the abstract heap, data in them -/
namespace LW
open L2 PySem.Spec PyProof.Rows PySem

/-- H without what stands at the addresses of A -/
def hv (A : List Addr) (H : Hp) : Hp := fun b => if b ∈ A then none else H b
theorem hv_in {A : List Addr} {H : Hp} {b : Addr} (h : b ∈ A) : hv A H b = none := if_pos h
theorem hv_out {A : List Addr} {H : Hp} {b : Addr} (h : b ∉ A) : hv A H b = H b := if_neg h
theorem hv_nil {H : Hp} : hv [] H = H := by
  funext b
  exact hv_out (by simp)
theorem hv_le {A : List Addr} {H : Hp} : Same (hv A H) H := fun b o h => by
  by_cases hb : b ∈ A
  · rw [hv_in hb] at h; cases h
  · rw [hv_out hb] at h; exact h
theorem hv_cons_le {A : List Addr} {a : Addr} {H : Hp} : Same (hv (a :: A) H) (hv A H) := fun b o h => by
  by_cases hb : b ∈ a :: A
  · rw [hv_in hb] at h; cases h
  · rw [hv_out hb] at h
    rw [hv_out fun z => hb (List.mem_cons_of_mem _ z)]
    exact h
/-- every address of A is held -/
def Hd (A : List Addr) (H : Hp) : Prop := ∀ a ∈ A, H a ≠ none
theorem Hd.nil {H : Hp} : Hd [] H := fun _ h => by cases h
theorem Hd.cons {A : List Addr} {H : Hp} {a : Addr} {o : HO} (e : H a = some o) (h : Hd A H) : Hd (a :: A) H := fun b hb => by
  rcases List.mem_cons.mp
        hb with z | z
  · subst z; rw [e]; exact fun z => by cases z
  · exact h b z
theorem Hd.out {A : List Addr} {H : Hp} {p : Addr} (h : Hd A H) (n : H p = none) : p ∉ A := fun z => h p z n

/-- all that stood outside A stands as before, and A is still held -/
structure Go (A : List Addr) (H H' : Hp) : Prop where
  keep : ∀ b o, b ∉ A → H b = some o → H' b = some o
  held : Hd A H → Hd A H'
theorem Go.refl {A : List Addr} {H : Hp} : Go A H H := ⟨fun _ _ _ h => h, fun h => h⟩
theorem Go.trans {A : List Addr} {H H1 H2 : Hp} (a : Go A H H1) (b : Go A H1 H2) : Go A H H2 := ⟨fun c o n h => b.keep c o n (a.keep c o n h), fun h => b.held (a.held h)⟩
theorem Go.of {A : List Addr} {H H' : Hp} (s : Same H H') : Go A H H' := ⟨fun b o _ h => s b o h, fun h a ha z => by
  cases q : H a with
  | none => exact h a ha q
  | some o => rw [s a o q] at z; cases z⟩
theorem Go.same {H H' : Hp} (s : Go [] H H') : Same H H' := fun b o h => s.keep b o (by simp) h
theorem Go.hv {A : List Addr} {H H' : Hp} (s : Go A H H') : Same (LW.hv A H) (LW.hv A H') := fun b o h => by
  by_cases hb : b ∈ A
  · rw [hv_in hb] at h; cases h
  · rw [hv_out hb] at h ⊢; exact s.keep b o hb h
theorem Go.free {A : List Addr} {H H' : Hp} (s : Go A H H') (h : Hd A H) {p : Addr} (n : H' p = none) : H p = none := by
  cases q : H p with
  | none => rfl
  | some o =>
    by_cases hp : p ∈ A
    · exact absurd n (s.held h p hp)
    · rw [s.keep p o hp q] at n; cases n
/-- a new thing -/
theorem same_new {H : Hp} {p : Addr} {o : HO} (n : H p = none) : Same H (upd H p o) := fun b u e => by
  rw [upd_ne (ne_of_none e n)]; exact e
theorem Go.new {A : List Addr} {H : Hp} {p : Addr} {o : HO} (n : H p = none) : Go A H (upd H p o) := .of (same_new n)
/-- a change within A -/
theorem Go.chg {A : List Addr} {H : Hp} {p : Addr} {o : HO} (h : p ∈ A) : Go A H (upd H p o) :=
  ⟨fun b u n e => by rw [upd_ne fun z => n (by rw [z]; exact h)]; exact e, fun hd a ha z => by
    by_cases e : a = p
    · subst e; rw [upd_same] at z; cases z
    · rw [upd_ne e] at z; exact hd a ha z⟩
/-- fewer hidden -/
theorem Go.drop {A : List Addr} {a : Addr} {H H' : Hp} (s : Go (a :: A) H H') (h : Hd (a :: A) H) (n : ∀ o, H a = some o → H' a = some o) : Go A H H' :=
  ⟨fun b o hb e => by
    by_cases z : b = a
    · subst z; exact n o e
    · exact s.keep b o (fun y => (List.mem_cons.mp y).elim z hb) e, fun _ b hb => s.held h b (List.mem_cons_of_mem _ hb)⟩
/-- a local thing at a, new since H, is forgotten -/
theorem Go.local {A : List Addr} {a : Addr} {H H1 H2 : Hp} (n : H a = none) (s1 : Go A H H1) (s : Go (a :: A) H1 H2) (hd : Hd (a :: A) H1) : Go A H H2 :=
  ⟨fun b o hb e => s.keep b o (fun y => by
    rcases List.mem_cons.mp y with y | y
    · subst y; rw [n] at e; cases e
    · exact hb y) (s1.keep b o hb e), fun _ b hb => s.held hd b (List.mem_cons_of_mem _ hb)⟩

section
variable {K : PySem.W.Frag} {H H' : Hp}
theorem seqT_same (e : Same H H') {a : Addr} {xs : List V} (h : SqT K H a xs) : SqT K H' a xs := by
  rcases h with (h | ⟨o,
        h⟩) | h
  · exact .inl (.inl (e _ _ h))
  · exact .inl (.inr ⟨o,
        e _ _ h⟩)
  · exact .inr h
end
/-- v is the data d: None, bools, ints, texts, lists, tuples, and the empty dict -/
inductive D (K : PySem.W.Frag) (H : Hp) : V → PyData → Prop
  | non : D K H .non .none
  | bl (b : Bool) : D K H (.bl b) (.bool b)
  | int (i : Int) : D K H (.int i) (.int i)
  | str (x : Str) : D K H (.str x) (.str x)
  | lst {a : Addr} {xs : List V} {ds : List PyData} (h : SqL K H a xs) (len : xs.length = ds.length) (all : ∀ (i : Nat) (v : V) (d : PyData), xs[i]? = some v → ds[i]? = some d → D K H v d) : D K H (.ref a) (.list ds)
  | tup {a : Addr} {xs : List V} {ds : List PyData} (h : SqT K H a xs) (len : xs.length = ds.length) (all : ∀ (i : Nat) (v : V) (d : PyData), xs[i]? = some v → ds[i]? = some d → D K H v d) : D K H (.ref a) (.tuple ds)
  | dct {a : Addr} (h : H a = some (.dK [])) (ne : a ≠ sysModules) : D K H (.ref a) (.dict [])
/-- .. of each -/
structure DAll (K : PySem.W.Frag) (H : Hp) (xs : List V) (ds : List PyData) : Prop where
  len : xs.length = ds.length
  all : ∀ (i : Nat) (v : V) (d : PyData), xs[i]? = some v → ds[i]? = some d → D K H v d
section
variable {K : PySem.W.Frag} {H H' : Hp}
theorem DAll.nil : DAll K H [] [] := ⟨rfl, fun i v d h => by simp at h⟩
theorem DAll.cons {v : V} {d : PyData} {vs : List V} {ds : List PyData} (h : D K H v d) (r : DAll K H vs ds) : DAll K H (v :: vs) (d :: ds) :=
  ⟨by rw [List.length_cons, List.length_cons, r.len], fun i w e h1 h2 => by
    cases i with
    | zero =>
      have e1 : v = w := Option.some.inj h1
      have e2 : d = e := Option.some.inj h2
      rw [← e1, ← e2]
      exact h
    | succ i => exact r.all i w e h1 h2⟩
theorem D.lst' {a : Addr} {xs : List V} {ds : List PyData} (h : SqL K H a xs) (r : DAll K H xs ds) : D K H (.ref a) (.list ds) := .lst h r.len r.all
theorem D.tup' {a : Addr} {xs : List V} {ds : List PyData} (h : SqT K H a xs) (r : DAll K H xs ds) : D K H (.ref a) (.tuple ds) := .tup h r.len r.all
theorem D.same (e : Same H H') {v : V} {d : PyData} (h : D K H v d) : D K H' v d := by
  induction h with
  | non => exact .non
  | bl b => exact .bl b
  | int i => exact .int i
  | str x => exact .str x
  | lst h len all ih => exact .lst (e.seq h) len ih
  | tup h len all ih => exact .tup (seqT_same e h) len ih
  | dct h ne => exact .dct (e _ _ h) ne
theorem DAll.same (e : Same H H') {vs : List V} {ds : List PyData} (h : DAll K H vs ds) : DAll K H' vs ds := ⟨h.len, fun i v d h1 h2 => D.same e (h.all i v d h1 h2)⟩
theorem hasDict_get {d : PyData} : ∀ {ds : List PyData} {i : Nat}, PyData.hasDictAll ds = false → ds[i]? = some d → d.hasDict = false
  | [], _, _, h => by simp at h
  | c :: ds, 0, q, h => by
    have e : c = d := Option.some.inj h
    subst e
    rw [PyData.hasDictAll, Bool.or_eq_false_iff] at q
    exact q.1
  | c :: ds, i + 1, q, h => by
    rw [PyData.hasDictAll, Bool.or_eq_false_iff] at q
    exact hasDict_get (i := i) q.2 h
theorem dpAll_of : ∀ {xs : List V} {ds : List PyData}, xs.length = ds.length → (∀ (i : Nat) (v : V) (d : PyData), xs[i]? = some v → ds[i]? = some d → Dp K H v d) → DpAll K H xs ds
  | [], [], _, _ => .nil
  | [], d :: ds, h, _ => by simp at h
  | v :: xs, [], h, _ => by simp at h
  | v :: xs, d :: ds, h, q => .cons (q 0 v d rfl rfl) (dpAll_of (by simpa using h) fun i w e h1 h2 => q (i + 1) w e h1 h2)
theorem D.dp {v : V} {d : PyData} (h : D K H v d) : d.hasDict = false → Dp K H v d := by
  induction h with
  | non => exact fun _ => .non
  | bl b => exact fun _ => .bl b
  | int i => exact fun _ => .int i
  | str x => exact fun _ => .str x
  | lst h len all ih => exact fun z => .lst h (dpAll_of len fun i v d h1 h2 => ih i v d h1 h2 (hasDict_get (by simpa [PyData.hasDict] using z) h2))
  | tup h len all ih => exact fun z => .tup h (dpAll_of len fun i v d h1 h2 => ih i v d h1 h2 (hasDict_get (by simpa [PyData.hasDict] using z) h2))
  | dct h ne => exact fun z => by simp [PyData.hasDict] at z
end
section
variable {X : Cx} {pins : List (Addr × Obj)} {σ :
      L2.St} {H : Hp} {s : Shared}
theorem readsAll_of {h : Heap} {P : List Addr → Prop} (p0 : P []) (pa : ∀ a b, P a → P b → P (a ++ b)) : ∀ {us : List Value} {ds : List PyData}, us.length = ds.length → (∀ (i : Nat) (u : Value) (d : PyData), us[i]? = some u → ds[i]? = some d → ∃ as, Reads h u d as ∧ P as) → ∃ as, ReadsAll h us ds as ∧ P as
  | [], [], _, _ => ⟨_, .nil, p0⟩
  | [], d :: ds, h, _ => by simp at h
  | v :: xs, [], h, _ => by simp at h
  | v :: xs, d :: ds, h, q => by
    obtain ⟨as, r1, h1⟩ := q 0 v d rfl rfl
    obtain ⟨bs, r2, h2⟩ := readsAll_of p0 pa (us := xs) (ds := ds) (by simpa using h) fun i w e h1 h2 => q (i + 1) w e h1 h2
    exact ⟨_, .cons r1 r2, pa _ _ h1 h2⟩
theorem vals_get' : ∀ {xs : List V} {us : List Value} {i : Nat} {u : Value}, Vals xs us → us[i]? = some u → ∃ x, xs[i]? = some x ∧ RelV x u
  | _, _, _, _, .nil, e =>
        by simp at e
  | _, _, 0, _, .cons r _, e => by
        simp at e; subst e; exact ⟨_, rfl, r⟩
  | _, _, i + 1, x, .cons
        _ t, e => by
    obtain ⟨u, h1, h2⟩ := vals_get' (i := i) (u := x) t (by simpa using e)
    exact ⟨u, by
          simpa using h1, h2⟩
/-- the model's own reading of data -/
theorem D.reads (I : Inv X pins σ H s) {v : V} {d : PyData} (h : D X.K H v d) : ∀ u, RelV v u → ∃ as, Reads s.heap u d as := by
  induction h with
  | non => intro u r; cases r; exact ⟨_, .none⟩
  | bl b => intro u r; cases r; exact ⟨_, .bool b⟩
  | int i => intro u r; obtain ⟨t, rfl⟩ := r; exact ⟨_, .int i t⟩
  | str x => intro u r; obtain ⟨t, rfl⟩ := r; exact ⟨_, .str x t⟩
  | lst h len all ih =>
    intro u r
    cases r
    obtain ⟨its, rv, ⟨o, n, ho, hc, _, hd⟩, _⟩ := I.list h
    obtain ⟨as, hr, _⟩ := readsAll_of (P := fun _ => True) (h := s.heap) (us := its) trivial (fun _ _ _ _ => trivial) (by rw [← rv.length, len]) fun i u d h1 h2 => by
      obtain ⟨x, e, rx⟩ := vals_get' rv h1
      obtain ⟨as, q⟩ := ih i x d e h2 u rx
      exact ⟨as, q, trivial⟩
    exact ⟨_, .list ho hc hd hr⟩
  | tup h len all ih =>
    intro u r
    cases r
    obtain ⟨its, rv, ⟨o, ho, hc, n, hd⟩, _⟩ := I.tuple h
    obtain ⟨as, hr, _⟩ := readsAll_of (P := fun _ => True) (h := s.heap) (us := its) trivial (fun _ _ _ _ => trivial) (by rw [← rv.length, len]) fun i u d h1 h2 => by
      obtain ⟨x, e, rx⟩ := vals_get' rv h1
      obtain ⟨as, q⟩ := ih i x d e h2 u rx
      exact ⟨as, q, trivial⟩
    exact ⟨_, .tuple ho hc hd hr⟩
  | dct h ne =>
    intro u r
    cases r
    obtain ⟨_, _, vs, kv, o, es, ep, ho, ⟨hc, _, _⟩, hd, _, prs, _⟩ := I.hok _ _ h
    cases kv
    have e0 : es.toList = [] := by
      cases q : es.toList with
      | nil => rfl
      | cons x r => rw [q] at prs; cases prs
    refine ⟨_, Reads.dict ho hc hd (as := []) (bs := []) ?_ ?_⟩
    · rw [e0]; exact .nil
    · rw [e0]; exact .nil
end

/-- v is the data d, seen without A -/
abbrev Is (K : PySem.W.Frag) (A : List Addr) (H : Hp) (v : V) (d : PyData) : Prop := D K (hv A H) v d
abbrev Iss (K : PySem.W.Frag) (A : List Addr) (H : Hp) (vs : List V) (ds : List PyData) : Prop := DAll K (hv A H) vs ds
section
variable {K : PySem.W.Frag} {A : List Addr} {H H' : Hp} {v : V} {vs : List V} {d : PyData} {ds : List PyData} {a p : Addr}
theorem Is.mono (s : Go A H H') (h : Is K A H v d) : Is K A H' v d := D.same s.hv h
theorem Iss.mono (s : Go A H H') (h : Iss K A H vs ds) : Iss K A H' vs ds := DAll.same s.hv h
theorem Is.full (h : Is K A H v d) : D K H v d := D.same hv_le h
theorem Iss.full (h : Iss K A H vs ds) : DAll K H vs ds := DAll.same hv_le h
theorem Is.more (n : H a = none) (h : Is K A H v d) : Is K (a :: A) H v d := by
  refine D.same (fun b o e => ?_) h
  by_cases hb : b ∈ A
  · rw [hv_in hb] at e; cases e
  · rw [hv_out hb] at e
    rw [hv_out fun z => by
      rcases List.mem_cons.mp
            z with z | z
      · subst z; rw [n] at e; cases e
      · exact hb z]
    exact e
theorem Is.less (h : Is K (a :: A) H v d) : Is K A H v d := D.same hv_cons_le h
theorem Iss.less (h : Iss K (a :: A) H vs ds) : Iss K A H vs ds := DAll.same hv_cons_le h
theorem is_int {i : Int} (h : Is K A H v (.int i)) : v = .int i := by cases h; rfl
theorem is_bl {b : Bool} (h : Is K A H v (.bool b)) : v = .bl b := by cases h; rfl
theorem is_str {x : Str} (h : Is K A H v (.str x)) : v = .str x := by cases h; rfl
theorem is_non (h : Is K A H v .none) : v = .non := by cases h; rfl
theorem is_tup (h : Is K A H v (.tuple ds)) : ∃ a vs, v = .ref a ∧ SqT K (hv A H) a vs ∧ Iss K A H vs ds := by
  cases h with
  | tup h l a => exact ⟨_, _, rfl, h, l, a⟩
theorem is_lst (h : Is K A H v (.list ds)) : ∃ a vs, v = .ref a ∧ SqL K (hv A H) a vs ∧ Iss K A H vs ds := by
  cases h with
  | lst h l a => exact ⟨_, _, rfl, h, l, a⟩
theorem iss_nil (h : Iss K A H vs []) : vs = [] := List.length_eq_zero_iff.mp h.len
theorem iss_cons (h : Iss K A H vs (d :: ds)) : ∃ v ws, vs = v :: ws ∧ Is K A H v d ∧ Iss K A H ws ds := by
  obtain ⟨l, q⟩ := h
  cases vs with
  | nil => simp at l
  | cons v ws => exact ⟨v, ws, rfl, q 0 v d rfl rfl, by simpa using l, fun i w e h1 h2 => q (i + 1) w e h1 h2⟩
theorem iss_len (h : Iss K A H vs ds) : vs.length = ds.length := by
  induction ds generalizing vs with
  | nil => rw [iss_nil h]; rfl
  | cons d ds ih =>
    obtain ⟨v, ws, rfl, _, r⟩ := iss_cons h
    rw [List.length_cons, List.length_cons, ih r]
theorem iss_get (h : Iss K A H vs ds) {i : Nat} (e : ds[i]? = some d) : ∃ v, vs[i]? = some v ∧ Is K A H v d := by
  induction ds generalizing vs i with
  | nil => simp at e
  | cons c ds ih =>
    obtain ⟨v, ws, rfl, q, r⟩ := iss_cons h
    cases i with
    | zero =>
      have e' : c = d := Option.some.inj e
      subst e'
      exact ⟨v, rfl, q⟩
    | succ i => exact ih r e
theorem iss_get' (h : Iss K A H vs ds) {i : Nat} (e : vs[i]? = some v) : ∃ d, ds[i]? = some d ∧ Is K A H v d := by
  have hi : i < vs.length := (List.getElem?_eq_some_iff.mp e).1
  rw [iss_len h] at hi
  obtain ⟨w, e2, q⟩ := iss_get h (List.getElem?_eq_getElem hi)
  rw [e] at e2
  cases e2
  exact ⟨_, List.getElem?_eq_getElem hi, q⟩
theorem iss_app {ws : List V} {es : List PyData} (h : Iss K A H vs ds) (r : Iss K A H ws es) : Iss K A H (vs ++ ws) (ds ++ es) := by
  induction ds generalizing vs with
  | nil => rw [iss_nil h]; exact r
  | cons c ds ih =>
    obtain ⟨v, vs', rfl, q, r'⟩ := iss_cons h
    exact DAll.cons q (ih r')
theorem iss_take {n : Nat} (h : Iss K A H vs ds) : Iss K A H (vs.take n) (ds.take n) := by
  induction ds generalizing vs n with
  | nil => rw [iss_nil h, List.take_nil, List.take_nil]; exact DAll.nil
  | cons c ds ih =>
    obtain ⟨v, vs', rfl, q, r'⟩ := iss_cons h
    cases n with
    | zero => exact DAll.nil
    | succ n => exact DAll.cons q (ih r')
theorem iss_drop {n : Nat} (h : Iss K A H vs ds) : Iss K A H (vs.drop n) (ds.drop n) := by
  induction ds generalizing vs n with
  | nil => rw [iss_nil h, List.drop_nil, List.drop_nil]; exact DAll.nil
  | cons c ds ih =>
    obtain ⟨v, vs', rfl, q, r'⟩ := iss_cons h
    cases n with
    | zero => exact DAll.cons q r'
    | succ n => exact ih r'
theorem iss_ints : ∀ ns : List Int, Iss K A H (ns.map V.int) (ns.map PyData.int)
  | [] => DAll.nil
  | n :: ns => DAll.cons (.int n) (iss_ints ns)
theorem sqT_full (h : SqT K (hv A H) a vs) : SqT K H a vs := seqT_same hv_le h
theorem sqL_full (h : SqL K (hv A H) a vs) : SqL K H a vs := Same.seq hv_le h
theorem is_new_tup (hd : Hd A H) (n : H p = none) (h : Iss K A H vs ds) : Is K A (upd H p (.tup vs)) (.ref p) (.tuple ds) :=
  .tup' (.inl (.inl (by rw [hv_out (hd.out n)]; exact upd_same))) (Iss.mono (.new n) h)
theorem is_new_lst (hd : Hd A H) (n : H p = none) (h : Iss K A H vs ds) : Is K A (upd H p (.lst vs)) (.ref p) (.list ds) :=
  .lst' (.inl (.inl (by rw [hv_out (hd.out n)]; exact upd_same))) (Iss.mono (.new n) h)
/-- a list of the def's own at l, let go -/
theorem is_own_lst {l : Addr} (e : H l = some (.lst vs)) (hl : l ∉ A) (h : Iss K (l :: A) H vs ds) : Is K A H (.ref l) (.list ds) :=
  .lst' (.inl (.inl (by rw [hv_out hl]; exact e))) (Iss.less h)
theorem hd_new (hd : Hd A H) (n : H p = none) {o : HO} : Hd A (upd H p o) := (Go.new n).held hd
end
end LW

set_option Elab.async false
set_option linter.all false
set_option maxRecDepth 100000
set_option maxHeartbeats 4000100
/-! defs that run where nothing is being shown (no repr is under way) -/
namespace LW
open L2 PySem.Spec PyProof.Rows PySem

/-- a def's promise, where no repr is under way -/
structure FnG (P : Program) (w : World) (K : PySem.W.Frag) (mg : Str → Option Value) (base : Heap) (CX : CXT) (k : Nat) (f : Addr) (fd : FuncData) (ps : List Str) (sp : Sp) : Prop where
  args : ∀ vs H Q E, sp vs H Q E → vs.length = ps.length
  runs : ∀ (A : Around) (outer : List Env) (s : Shared) (H : Hp) (given : Args) (us : List Value) (vs : List V) (Q : VK) (E : XK), Room k A → A.guards = some [] →
    Env0 P w K mg base A outer s H → BindsTo s fd given (ps.zip us) → Vals vs us → sp vs H Q E →
    codeAny (model P w) A (.call (.ref f) given) (CR CX outer P w H s Q E) s

theorem FnG.of {P : Program} {w : World} {K : PySem.W.Frag} {mg : Str → Option Value} {base : Heap} {CX : CXT} {k : Nat} {f : Addr} {fd : FuncData} {ps : List Str} {sp : Sp}
    (F : FnOk P w K mg base CX k f fd ps sp) : FnG P w K mg base CX k f fd ps sp :=
  ⟨F.len, fun A outer s H given us vs Q E hr _ e0 hb hv hs => F.run A outer s H given us vs Q E hr e0 hb hv hs⟩

section
variable {P : Program} {w : World} {K : PySem.W.Frag} {mg : Str
      → Option Value} {base : Heap}
/-- from the body -/
theorem fnG_of {CX : CXT} {k : Nat} {f : Addr} {name qual : Str} {params : Arguments} {body : List Stmt} {scope : Scope} {dV kV doc pm cdv ct oc : Value} {an od : Option Addr}
    {osl : Array (Option Value)} {N ps :
          List Str} {sp : Sp}
    (lk : K.lookup f = some ⟨oc, od, .func (PySem.W.fnOf name qual params body scope dV kV doc pm an cdv ct), osl⟩)
    (hcode : PySem.W.codeIn K cdv qual = true) (S : FnScope N ps scope)
    (lens : ∀ vs H Q E, sp vs H Q E → vs.length = ps.length)
    (inner : ∀ (A : Around) (outer : List Env) (s : Shared) (H : Hp) (vs : List V) (Q : VK) (E : XK), Room k (A.deeper (envOfC qual scope s.heap.objs.size f cdv)) → A.guards = some [] → sp vs H Q E →
      ∃ t, PSs (cxOf CX P w K mg base N qual scope f cdv A outer s H E) body t ∧
        t { nx := fun _ H' => Q .non H', rt := Q } (start N vs) H) :
    FnG P w K mg base CX (k + 1) f (PySem.W.fnOf name qual params body scope dV kV doc pm an cdv ct) ps sp := by
  refine ⟨lens, ?_⟩
  intro A outer s H given us vs Q E room quiet e0 hbind rel want
  have same_len := lens _ _ _ _ want
  have KS : K.In s.heap := e0.mod.kin.keeps (fun b o e => (e0.bs b o e).1)
  have NL : s.heap.NoLimit := e0.mod.nolimit.keeps (fun b o e => (e0.bs b o e).1)
  have kinds : ∀ y ∈ ps.zip us, scope.names.lookup y.1 = some .local ∨
      (scope.names.lookup y.1 = some .cell ∧ ((cellsFrom (s.heap.objs.size + 1) scope.names []).lookup y.1).isSome = true) := by
    rintro ⟨n, v⟩ hy
    cases S.par n (List.of_mem_zip hy).1 with
    | inl q => exact Or.inl q
    | inr q => exact Or.inr ⟨q, PySem.W.cellsFrom_some _ _ _ (Or.inl q)⟩
  refine codeAny_call_function room.depth (KS _ _ lk) rfl S.co S.gen rfl (PySem.W.codeRec_of KS hcode) (hbind _ _ _ _ ?_)
  refine wpAny_newFunctionEnv_cells S.kind kinds ?_
  intro env hE s1 inn
  subst hE
  refine ⟨NL.keeps inn.toInCall.keep, ?_⟩
  refine codeAny_func ?_
  obtain ⟨t, der, rd⟩ := inner A outer s H vs Q E (room.deeper _) quiet want
  have I0 : Inv (cxOf CX P w K mg base N qual scope f cdv A outer s H E) [] (start N vs) H s1 := inv_start S room.hd e0 same_len rel inn
  refine wpAny_mono (der.run [] s1 (start N vs) H _ I0 rd) ?_ (fun e s' hs => hs)
  intro fl s' hs
  have out : ∀ {σ' : L2.St} {H' : Hp} {v : V} {u : Value}, Inv (cxOf CX P w K mg base N qual scope f cdv A outer s H E) [] σ' H' s' → RelV v u → Q v H' → CE outer P w H s Q u s' := by
    intro σ' H' v u J rv q
    exact ⟨v, H', J.os, J.bare, J.base, J.hok, rv, q⟩
  match fl, hs with
  | .ret u, ⟨v, σ', H', J, rv, q⟩ => exact out J rv q
  | .next, ⟨σ', H', J, q⟩ => exact out (v := V.non) (u := Value.none) J rfl q
  | .brk, ⟨_, _, _, q⟩ => exact q.elim
  | .cont, ⟨_, _, _, q⟩ => exact q.elim
theorem Fun_okG {x qual : Str} {st : Stmt} {f : Addr} {fd : FuncData} {N ps : List Str} {k : Nat} {sp : Sp} (F : Fun K x qual st f fd) (S : FnScope N ps (defScope st)) (lens : ∀ vs H Q E, sp vs H Q E → vs.length = ps.length)
    (inner : ∀ (cdv : Value) (A : Around) (outer : List Env) (s : Shared) (H : Hp) (vs : List V) (Q : VK) (E : XK), Room k (A.deeper (envOfC qual (defScope st) s.heap.objs.size f cdv)) → A.guards = some [] → sp vs H Q E →
      ∃ t, PSs (cxOf CX0 P w K mg base N qual (defScope st) f cdv A outer s H E).nox (defBody st) t ∧ t { nx := fun _ H' => Q .non H', rt := Q } (start N vs) H) : FnG P w K mg base CX0 (k + 1) f fd ps sp := by
  obtain ⟨oc, od, kV, doc, pm, an, cdv, ct, osl, rfl, lk, hcode⟩ := F.ex
  refine fnG_of lk hcode S lens ?_
  intro A outer s H vs Q E room quiet want
  obtain ⟨t, der, rd⟩ := inner cdv A outer s H vs Q E room quiet want
  exact ⟨t, der.nox, rd⟩
end

section
variable {X : Cx} {CX : CXT} {k : Nat} {f : Addr} {fd : FuncData} {ps : List Str} {sp : Sp} {dvs : List V} {ds : List Value} {E : XK} {x : Str} {p pos : Pos} {e : Expr} {es : List Expr} {t : TA}
/-- f(e, ..) of such a def -/
theorem pe_callG (quiet : X.A.guards = some []) (F : FnG X.prog X.w X.K X.mg X.base CX k f fd ps sp) (hr : Room k X.A) (hg : Gl X x) (hm : X.mg x = some (.ref f)) (hk : PySem.W.keepIn X.K (.ref f) = true) (hb : Binds X.K fd ps ds) (hd : Vals dvs ds) (hx : Passes CX X E)
    (ha : PA X (e :: es) t) (hdb : (x == ("__debug__" : Str)) = false := by decide) (he : starEach (e :: es) X.env = (false, eval e X.env) :: starEach es X.env := by rfl)
    (hpl : (backTo pos (starEach es X.env)).any (·.1) = false := by rfl) :
    PE X (.Call (.Name x p) (e :: es) [] pos)
          (tCall sp dvs E t) := by
  constructor
  intro pins s σ H Q I h
  refine wpAny_Call_Name_kw (ld_glob
        I hg hm ?_ hdb)
  refine PySem.W.callWith_K (h₀ := X.base) I.ok.mod.kin hk (thn (ha.run pos pins s σ H _ I h) ?_) he hpl
  rintro us s1 ⟨vs, H1, I1, r, q⟩
  refine ⟨I1.kIn, ?_⟩
  have rel : Vals (vs ++ dvs) (us ++ ds) := r.append hd
  have ln : (us ++ ds).length = ps.length := rel.length ▸ F.args _ _ _ _ q
  refine wpAny_call (codeAny_mono (F.runs X.A X.stack s1 H1 ⟨us, []⟩ (us ++ ds) (vs ++ dvs) Q E hr quiet I1.env0 (hb s1 us I1.kIn ln) rel q) ?_)
  intro res s' fin
  match res, fin with
  | .error er, fin => exact hx pins σ H1 s1 er s' I1 fin
  | .ok (.ret u), fin => exact I1.after fin
  | .ok .next, fin => exact fin.elim
  | .ok .brk, fin => exact fin.elim
  | .ok .cont, fin => exact fin.elim
end

/-! ### repr of data -/
section
variable {X : Cx}
/-- repr(x), x a list or a tuple of data without dicts -/
theorem call_reprD (quiet : X.A.guards = some []) {k : Nat} (hr : Room k X.A) : CallR X (.builtin "repr") (fun xs H Q => ∃ (a : Addr) (d : PyData), xs = [.ref a] ∧ D X.K H (.ref a) d ∧ d.showable = true ∧ d.hasDict = false ∧ d.depth ≤ 60 ∧ d.shown.length ≤ sizeLine ∧ Q (.str d.shown) H) := by
  intro pins s σ H xs
        us Q I r h
  obtain ⟨a, d, rfl, hd, hs, hn, hdep, hsz, q⟩ := h
  obtain ⟨u, rfl, ru⟩
        := vals1 r
  obtain rfl : u = Value.ref
        a := ru
  obtain ⟨as, rr⟩ := hd.reads I _ rfl
  have un := hr.un
  refine repr_of_reads' rr hs (fun z => by rw [hn] at z; cases z) quiet (by omega) (fun _ _ e => e) (fun h' u tk hk => ?_) hsz
  exact ⟨.str d.shown, H, I.kept hk, ⟨_, rfl⟩, q⟩
end
end LW
namespace LW
open L2 PySem.Spec PyProof.Rows PySem
/-! ### the law's own call -/
theorem law_start {P : Program} {w : World} {K : PySem.W.Frag} {mg mb : Str → Option Value} {k : Nat} {fa a : Addr} {fd : FuncData} {x : Str} {sp : Sp} {s₁ : Shared} {vs : List Value} {ns : List Int}
    (KX : K.In s₁.heap) (gl : s₁.heap.Ns mainGlobals mg) (bl : s₁.heap.Ns builtinsNs mb) (bb : ∀ x : Str, x ≠ "__name__" → mb x = bootBuiltins x) (lim : s₁.heap.NoLimit) (gn : s₁.gens = #[])
    (sa : s₁.heap.get? a = some { cls := .type "list", data := .seq vs.toArray }) (si : IntsAre vs ns) (sl : ns.length ≤ sizeLine) (room : Room k callerA)
    (F : ∀ base : Heap, K.In base → base.Ns mainGlobals mg → FnG P w K mg base CX0 k fa fd [x] sp) (bind : ∀ (s : Shared) (u : Value), BindsTo s fd ⟨[u], []⟩ [(x, u)])
    (want : ∀ H : Hp, SqL K H a (ns.map V.int) → sp [.ref a] H (fun v _ => v = .bl true) fun _ _ _ => False) :
    codeAny (model P w) callerA (.call (.ref fa) ⟨[.ref a], []⟩) (fun r s' => r = .ok (.ret (.bool true)) ∧ OldK
          s₁.heap s'.heap ∧ s'.os = s₁.os ∧ AllBare s'.gens) s₁ := by
  have rels := vals_ints si
  have many := si.length
  let ob : Obj := { cls := .type "list", data := .seq vs.toArray }
  -- the heap that is tracked: the script alone, or nothing
  have main : ∀ H : Hp, (∀ b, H b = none ∨ (b = a ∧ K.lookup a = none ∧ H b = some (.frz ob (.lst (ns.map V.int))))) → SqL K H a (ns.map V.int) →
      codeAny (model P w) callerA (.call (.ref fa) ⟨[.ref a], []⟩) (fun r s' => r = .ok (.ret (.bool true)) ∧ OldK
            s₁.heap s'.heap ∧ s'.os = s₁.os ∧ AllBare s'.gens) s₁ := by
    intro H onlyA sq
    have ok : HOk P w H s₁.heap := by
      intro b u hb
      rcases onlyA b with z | ⟨rfl, _, z⟩
      · rw [z] at hb; cases hb
      · rw [z] at hb
        cases hb
        exact ⟨sa, by rw [List.length_map]; exact sl, vs, _, rels, sa⟩
    have untracked : ∀ {b : Addr} {o : Obj}, s₁.heap.get? b = some o → (∀ its n, o.data ≠ .seq its n) → H b = none := by
      intro b o e nd
      rcases onlyA b with z | ⟨rfl, _, _⟩
      · exact z
      · rw [sa] at e
        cases e
        exact (nd _ _ rfl).elim
    have lift : ∀ {b : Addr} {m : Str → Option Value}, s₁.heap.Ns b m → (hidT s₁.heap H).Ns b m := by
      rintro b m ⟨o, es, ep, e, d, r⟩
      exact ⟨o, es, ep, hidT_get e (untracked e fun its n z => by rw [d] at z; cases z), d, r⟩
    have KB : K.In (hidT s₁.heap H) := by
      intro b o e
      refine hidT_get (KX b o e) ?_
      rcases onlyA b with z | ⟨rfl, z, _⟩
      · exact z
      · rw [z] at e; cases e
    have env0 : Env0 P w K mg (hidT s₁.heap H) callerA [] s₁ H := by
      refine ⟨rfl, ⟨KB, lift gl, ⟨mb, lift bl, bb⟩, ?_⟩, fun b o e => of_hidT e, Nat.le_of_eq (hidT_size _ _), trivial, ?_, ok, .of_eq gn⟩
      · obtain ⟨mc, l1, l2⟩ := lim
        exact ⟨mc, lift l1, l2⟩
      · intro b hb
        simp [frs] at hb
    refine codeAny_mono ((F _ KB (lift gl)).runs callerA [] s₁ H ⟨[.ref a], []⟩ [.ref a] [.ref a] _ _ room rfl env0 (bind s₁ (.ref a)) (.cons rfl .nil) (want H sq)) ?_
    intro r s' fin
    match r, fin with
    | .error er, fin => exact fin.elim
    | .ok .next, fin => exact fin.elim
    | .ok .brk, fin => exact fin.elim
    | .ok .cont, fin => exact fin.elim
    | .ok (.ret u), ⟨v, H', os, bare, un, ok', rv, q⟩ =>
      have q' : v = .bl true := q
      subst q'
      have ru : u = Value.bool true := rv
      subst ru
      refine ⟨rfl, OldK.of_keep ?_, os, bare⟩
      intro b o e
      rcases onlyA b with z | ⟨rfl, _, z⟩
      · exact un.keep b o e z (by simp [frs]) (by simp)
      · obtain ⟨e2, _⟩ := ok' b _ (un.frzs b ob _ z)
        rw [sa] at e
        cases e
        exact e2
  by_cases own : K.lookup a = none
  · refine main (fun b => if b = a then some (.frz ob (.lst (ns.map V.int))) else none) (fun b => ?_) (.inl (.inr ⟨ob, if_pos rfl⟩))
    by_cases z : b = a
    · exact .inr ⟨z, own, if_pos z⟩
    · exact .inl (if_neg z)
  · cases q : K.lookup a with
    | none => exact (own q).elim
    | some o =>
      have e := KX a o q
      rw [sa] at e
      cases e
      exact main (fun _ => none) (fun _ => .inl rfl) (.inr ⟨_, vs.toArray, _, q, rfl, rfl, rfl, by rw [List.size_toArray, many]; exact sl, by simpa using rels⟩)

theorem law_walk {l : PySem.W.OpenLaw} {n k : Nat} {q : Program} {loose : List Str} {XP : (Str → Option Value) → Heap → Prop} {YP : World → Heap → Prop} {d : DefRec} {K : Params → PySem.W.Frag} {sp : PySem.W.Frag → Sp} {x : Str}
    (most : l.most = some n) (short : n ≤ sizeLine) (noDefaults : d.params.defaults = []) (room : Room k callerA)
    (written : ∀ (w : World) (h : Heap), YP w h → (K w.params).In h)
    (F : ∀ (w : World) (mg : Str → Option Value) (fa : Addr) (h : Heap), (K w.params).In h → h.Ns mainGlobals mg → XP mg h → mg d.name = some (.ref fa) →
      ∃ fd : FuncData, (∀ (s : Shared) (u : Value), BindsTo
            s fd ⟨[u], []⟩ [(x, u)]) ∧
        ∀ base : Heap, (K w.params).In base → base.Ns mainGlobals mg → FnG l.prog w (K w.params) mg base CX0 k fa fd [x] (sp (K w.params)))
    (want : ∀ (K : PySem.W.Frag) (H : Hp) (a : Addr) (ns : List Int), ns.length ≤ n → SqL K H a (ns.map V.int) → sp K [.ref a] H (fun v _ => v = .bl true) fun _ _ _ => False) :
    PySem.W.WalkO q loose XP YP l.row.toRowW d [] (fun f vs
          => PySem.call f vs) := by
  refine Att.attach_call most noDefaults ?_
  intro w s₀ s₁ mg mb fa o pm cd doc a vs ns G Y ho hd hcd hmg hobj hints hlen hg
  have KX := written w _ Y
  obtain ⟨fd, hb, hF⟩ := F w mg fa _ KX G.T.g G.X hmg
  exact law_start KX G.T.g G.T.b G.T.builtins G.T.nolimit hg hobj hints (Nat.le_trans hlen short) room hF hb (fun H hS => want (K w.params) H a ns hlen hS)
end LW

set_option Elab.async false
set_option linter.all false
set_option maxRecDepth 100000
set_option maxHeartbeats 4000100
/-! what the readings of common parts ask, from facts of data; the built-in names -/
namespace LW
open L2 PySem.Spec PyProof.Rows PySem

/-- the built-in names are still that -/
structure Bl (mg : Str → Option Value) : Prop where
  len : mg "len" = none
  abs : mg "abs" = none
  divmod : mg "divmod" = none
  sorted : mg "sorted" = none
  all : mg "all" = none
  any : mg "any" = none
  sum : mg "sum" = none
  max : mg "max" = none
  min : mg "min" = none
  repr : mg "repr" = none
  isinstance : mg "isinstance" = none
  int : mg "int" = none
  str : mg "str" = none
  bool : mg "bool" = none
  tuple : mg "tuple" = none
  list : mg "list" = none
  set : mg "set" = none
  dict : mg "dict" = none
  range : mg "range" = none
  enumerate : mg "enumerate" = none
  reversed : mg "reversed" = none
  zip : mg "zip" = none

/-- a def of the text, by its name -/
structure OwnDef (K : PySem.W.Frag) (mg : Str → Option Value) (x : Str) (st : Stmt) : Prop where
  ex : ∃ (f : Addr) (fd : FuncData), Fun K x x st f fd ∧ mg x = some (.ref f)

/-- a def that may be called by its name -/
structure Cal (P : Program) (w : World) (K : PySem.W.Frag) (mg : Str → Option Value) (base : Heap) (k :
      Nat) (x : Str) (sp : Sp) (dvs : List V) : Prop where
  ex : ∃ (f : Addr) (fd : FuncData) (ps : List Str) (ds : List Value), FnOk P w K mg base CX0 k f fd ps sp ∧ mg x = some (.ref f) ∧
    PySem.W.keepIn K (.ref f) = true ∧ Binds K fd ps ds ∧ Vals dvs ds
/-- .. where nothing is being shown -/
structure CalG (P : Program) (w : World) (K : PySem.W.Frag) (mg : Str → Option Value) (base : Heap) (k : Nat) (x : Str) (sp : Sp) (dvs : List V) : Prop where
  ex : ∃ (f : Addr) (fd : FuncData) (ps : List Str) (ds : List Value), FnG P w K mg base CX0 k f fd ps sp ∧ mg x = some (.ref f) ∧
    PySem.W.keepIn K (.ref f) = true ∧ Binds K fd ps ds ∧ Vals dvs ds
section
variable {X : Cx} {k j : Nat} {x : Str} {sp : Sp} {dvs : List V} {p pos : Pos} {e : Expr} {es : List Expr} {t : TA}
theorem pe_c (cl : Cal X.prog X.w X.K X.mg X.base k x sp dvs) (hr : Room j X.A) (hk : k ≤ j) (hg : Gl X x) (ha : PA X (e :: es) t)
    (hdb : (x == ("__debug__" : Str)) = false := by
          decide) (he : starEach (e :: es) X.env = (false, eval e X.env) :: starEach es X.env := by rfl)
    (hpl : (backTo pos (starEach es X.env)).any (·.1) = false := by rfl) :
    PE X (.Call (.Name x p) (e :: es) [] pos)
          (tCall sp dvs E0 t) := by
  obtain ⟨f, fd, ps, ds, F, m, kp, b, d⟩ := cl.ex
  exact pe_call F (hr.mono hk) hg m kp b d pass0 ha hdb he hpl
theorem pe_cG (quiet : X.A.guards = some []) (cl : CalG X.prog X.w X.K X.mg X.base k x sp dvs) (hr : Room j X.A) (hk : k ≤ j) (hg : Gl X x) (ha : PA X (e :: es) t)
    (hdb : (x == ("__debug__" : Str)) = false := by
          decide) (he : starEach (e :: es) X.env = (false, eval e X.env) :: starEach es X.env := by rfl)
    (hpl : (backTo pos (starEach es X.env)).any (·.1) = false := by rfl) :
    PE X (.Call (.Name x p) (e :: es) [] pos)
          (tCall sp dvs E0 t) := by
  obtain ⟨f, fd, ps, ds, F, m, kp, b, d⟩ := cl.ex
  exact pe_callG quiet F (hr.mono hk) hg m kp b d pass0 ha hdb he hpl
end

section
variable {K : PySem.W.Frag} {A : List Addr} {H : Hp} {v w : V} {vs : List V} {d : PyData} {ds : List PyData} {Q : VK}
theorem atI_of {xs : List V} {i : Int} {w : V} (h0 : 0 ≤ i) (e : xs[i.toNat]? = some w) : atI xs i = some w := by
  have z : i = (i.toNat : Int) := (Int.toNat_of_nonneg h0).symm
  rw [z]
  exact atI_nat e
theorem rd_tup {i : Int} (h : Is K A H v (.tuple ds)) (h0 : 0 ≤ i) (e : ds[i.toNat]? = some d) (k : ∀ w, Is K A H w d → Q w H) : rIx K v (.int i) H Q := by
  obtain ⟨a, ws, rfl, sq, all⟩ := is_tup h
  obtain ⟨w, ew, hw⟩ := iss_get all e
  exact .inr (.inl ⟨a, ws, i, w, rfl, rfl, sqT_full sq, atI_of h0 ew, k w hw⟩)
theorem rd_lst {i : Int} (h : Is K A H v (.list ds)) (h0 : 0 ≤ i) (e : ds[i.toNat]? = some d) (k : ∀ w, Is K A H w d → Q w H) : rIx K v (.int i) H Q := by
  obtain ⟨a, ws, rfl, sq, all⟩ := is_lst h
  obtain ⟨w, ew, hw⟩ := iss_get all e
  exact .inl ⟨a, ws, i, w, rfl, rfl, sqL_full sq, atI_of h0 ew, k w hw⟩
theorem rd_raw {a : Addr} {xs : List V} {i : Int} (h : SqL K H a xs) (h0 : 0 ≤ i) (e : xs[i.toNat]? = some w) (k : Q w H) : rIx K (.ref a) (.int i) H Q :=
  .inl ⟨a, xs, i, w, rfl, rfl, h, atI_of h0 e, k⟩
/-- an int of a tuple -/
theorem rd_int {i j : Int} (h : Is K A H v (.tuple ds)) (h0 : 0 ≤ i) (e : ds[i.toNat]? = some (.int j)) (k : Q (.int j) H) : rIx K v (.int i) H Q :=
  rd_tup h h0 e fun w hw => by rw [is_int hw]; exact k
def rLen (K : PySem.W.Frag) : List V → Hp → VK → Prop := fun xs H Q => ∃ p ys, xs = [.ref p] ∧ (SqL K H p ys ∨ SqT K H p ys) ∧ Q (.int ys.length) H
theorem rd_lenT (h : Is K A H v (.tuple ds)) (k : Q (.int ds.length) H) : ∃ p ys, [v] = [.ref p] ∧ (SqL K H p ys ∨ SqT K H p ys) ∧ Q (.int ys.length) H := by
  obtain ⟨a, ws, rfl, sq, all⟩ := is_tup h
  exact ⟨a, ws, rfl, .inr (sqT_full sq), by rw [iss_len all]; exact k⟩
theorem rd_lenL (h : Is K A H v (.list ds)) (k : Q (.int ds.length) H) : ∃ p ys, [v] = [.ref p] ∧ (SqL K H p ys ∨ SqT K H p ys) ∧ Q (.int ys.length) H := by
  obtain ⟨a, ws, rfl, sq, all⟩ := is_lst h
  exact ⟨a, ws, rfl, .inl (sqL_full sq), by rw [iss_len all]; exact k⟩
end

/-! ### kinds of data -/
def tyN : PyData → String
  | .none => "NoneType"
  | .bool _ => "bool"
  | .int _ => "int"
  | .str _ => "str"
  | .list _ => "list"
  | .tuple _ => "tuple"
  | .dict _ => "dict"
section
variable {K : PySem.W.Frag} {A : List Addr} {H : Hp} {v w : V} {vs : List V} {d : PyData} {ds : List PyData} {Q : VK}
theorem D.ty (h : D K H v d) : TyX K H v (.type (tyN d)) := by
  cases h with
  | non => exact .base .non
  | bl b => exact .base (.bl b)
  | int i => exact .base (.int i)
  | str x => exact .base (.str x)
  | lst h len all =>
    rcases h with (h | ⟨o, h⟩) | ⟨o, its, n, h, hc, _⟩
    · exact .base (.lst h)
    · exact .base (.frz h)
    · exact .kList h hc
  | tup h len all =>
    rcases h with (h | ⟨o, h⟩) | ⟨o, its, n, h, hc, _⟩
    · exact .base (.tup h)
    · exact .fTuple h
    · exact .kTuple h hc
  | dct h => exact .base (.dK h)
/-- isinstance(x, a built-in class) of data -/
theorem rd_isi {n : String} {b : Bool} (h : D K H v d) (e : kitB (tyN d) n = some b) (k : Q (.bl b) H) : rIsi K [v, .ty n] H Q :=
  ⟨v, .ty n, .type (tyN d), .type n, b, rfl, .ty n, h.ty, kit_ty e, k⟩
def isIntD : PyData → Bool
  | .int _ => true
  | _ => false
def isTupD : PyData → Bool
  | .tuple _ => true
  | _ => false
def isStrD : PyData → Bool
  | .str _ => true
  | _ => false
def isBoolD : PyData → Bool
  | .bool _ => true
  | _ => false
theorem kit_int : ∀ d : PyData, kitB (tyN d) "int" = some (isIntD d || isBoolD d)
  | .none => (by decide +kernel : kitB "NoneType" "int" = some false)
  | .bool _ => (by decide +kernel : kitB "bool" "int" = some true)
  | .int _ => (by decide +kernel : kitB "int" "int" = some true)
  | .str _ => (by decide +kernel : kitB "str" "int" = some false)
  | .list _ => (by decide +kernel : kitB "list" "int" = some false)
  | .tuple _ => (by decide +kernel : kitB "tuple" "int" = some false)
  | .dict _ => (by decide +kernel : kitB "dict" "int" = some false)
theorem kit_bool : ∀ d : PyData, kitB (tyN d) "bool" = some (isBoolD d)
  | .none => (by decide +kernel : kitB "NoneType" "bool" = some false)
  | .bool _ => (by decide +kernel : kitB "bool" "bool" = some true)
  | .int _ => (by decide +kernel : kitB "int" "bool" = some false)
  | .str _ => (by decide +kernel : kitB "str" "bool" = some false)
  | .list _ => (by decide +kernel : kitB "list" "bool" = some false)
  | .tuple _ => (by decide +kernel : kitB "tuple" "bool" = some false)
  | .dict _ => (by decide +kernel : kitB "dict" "bool" = some false)
theorem kit_tup : ∀ d : PyData, kitB (tyN d) "tuple" = some (isTupD d)
  | .none => (by decide +kernel : kitB "NoneType" "tuple" = some false)
  | .bool _ => (by decide +kernel : kitB "bool" "tuple" = some false)
  | .int _ => (by decide +kernel : kitB "int" "tuple" = some false)
  | .str _ => (by decide +kernel : kitB "str" "tuple" = some false)
  | .list _ => (by decide +kernel : kitB "list" "tuple" = some false)
  | .tuple _ => (by decide +kernel : kitB "tuple" "tuple" = some true)
  | .dict _ => (by decide +kernel : kitB "dict" "tuple" = some false)
theorem kit_str : ∀ d : PyData, kitB (tyN d) "str" = some (isStrD d)
  | .none => (by decide +kernel : kitB "NoneType" "str" = some false)
  | .bool _ => (by decide +kernel : kitB "bool" "str" = some false)
  | .int _ => (by decide +kernel : kitB "int" "str" = some false)
  | .str _ => (by decide +kernel : kitB "str" "str" = some true)
  | .list _ => (by decide +kernel : kitB "list" "str" = some false)
  | .tuple _ => (by decide +kernel : kitB "tuple" "str" = some false)
  | .dict _ => (by decide +kernel : kitB "dict" "str" = some false)
end

/-! ### the tank: a list of three ints at a, changed by each draw -/
structure TankAt (H : Hp) (a : Addr) : Prop where
  ex : ∃ x y z : Int, H a = some (.lst [.int x, .int y, .int z]) ∧ 0 ≤ x ∧ 0 ≤ y ∧ y < 1610612741 ∧ 0 ≤ z
theorem TankAt.ne {H : Hp} {a : Addr} (t : TankAt H a) : H a ≠ none := by
  obtain ⟨x, y, z, e, _⟩ := t.ex
  rw [e]; exact fun z => by cases z
theorem TankAt.keep {H H' : Hp} {a : Addr} (t : TankAt H a) (s : Same H H') : TankAt H' a := by
  obtain ⟨x, y, z, e, r⟩ := t.ex
  exact ⟨x, y, z, s _ _ e, r⟩
theorem TankAt.upd_ne {H : Hp} {a p : Addr} {o : HO} (t : TankAt H a) (n : H p = none) : TankAt (upd H p o) a := t.keep (same_new n)
/-- kept outside A, and the tank at a is one still -/
structure GoT (A : List Addr) (a : Addr) (H H' : Hp) : Prop where
  go : Go A H H'
  tank : TankAt H' a
end LW
namespace LW
open L2 PySem.Spec PyProof.Rows PySem
/-- what an expression gives, told once for all that may follow -/
theorem via {σ : L2.St} {H : Hp} {t : TE} {Q : VK} (P : V → Hp → Prop) (h : ∀ Q' : VK, (∀ v H', P v H' → Q' v H') → t σ H Q') (k : ∀ v H', P v H' → Q v H') : t σ H Q := h Q k
theorem viaT {σ : L2.St} {H : Hp} {t : TT} {Q : Bool → Hp → Prop} (P : Bool → Hp → Prop) (h : ∀ Q' : Bool → Hp → Prop, (∀ v H', P v H' → Q' v H') → t σ H Q') (k : ∀ v H', P v H' → Q v H') : t σ H Q := h Q k
theorem pos_of {j : Int} (h : 0 < j) : (fun (_ j : Int) => 0 < j) 0 j := h
theorem some_map {α β : Type} {f : α → β} {l : List α} {i : Nat} {y : β} (h : (l.map f)[i]? = some y) : ∃ x, l[i]? = some x ∧ y = f x := by
  rw [List.getElem?_map] at h
  cases e : l[i]? with
  | none => rw [e]
        at h; cases h
  | some z => rw [e] at h; exact ⟨z, rfl, (Option.some.inj h).symm⟩
theorem map_some {α β : Type} {f : α → β} {l : List α} {i : Nat} {x : α} (h : l[i]? = some x) : (l.map f)[i]? = some (f x) := by
  rw [List.getElem?_map, h]; rfl
end LW
namespace LW
open L2 PySem.Spec PyProof.Rows PySem
theorem own_mk {K : PySem.W.Frag} {h : Heap} {mg : Str → Option Value} {x : Str} {st : Stmt} {f : Addr} {oc kV dc pm cd ct : Value} {od an : Option Addr} {sl : Array (Option Value)} (X : K.In h) (G : h.Ns mainGlobals mg)
    (a : PySem.W.nsIn K mainGlobals x = some (some (.ref f)))
    (l : K.lookup f = some ⟨oc, od, .func (PySem.W.fnOf x x (defArgs st) (defBody st) (defScope st) .none kV dc pm an cd ct), sl⟩)
    (co : PySem.W.codeIn K cd x = true) (k : PySem.W.keepIn K (.ref f) = true) : OwnDef K mg x st :=
  ⟨f, _, fun_mk (st := st) l co k, PySem.W.mg_of X G a⟩
end LW

namespace LW
open L2 PySem.Spec PyProof.Rows PySem
section
variable {X : Cx} {x : Str} {pos : Pos} {i : Int}
/-- a module's whole number, by its name -/
theorem pe_gint (hg : Gl X x) (hm : ∃ t, X.mg x = some (.int i t)) (hd : (x == ("__debug__" : Str)) = false := by decide) : PE X (.Name x pos) (tC (.int i)) := by
  obtain ⟨t, m⟩ := hm
  exact pe_glob hg m ⟨t, rfl⟩ hd
end
end LW
namespace LW
open L2 PySem.Spec PyProof.Rows PySem
section
variable {K : PySem.W.Frag} {H : Hp} {v w : V} {vs : List V} {d : PyData} {ds : List PyData} {Q : VK}
theorem D.is (h : D K H v d) : Is K [] H v d := by
  show D K (hv [] H) v d
  rw [hv_nil]; exact h
theorem DAll.is (h : DAll K H vs ds) : Iss K [] H vs ds := by
  show DAll K (hv [] H) vs ds
  rw [hv_nil]; exact h
theorem D.tuple (h : D K H v (.tuple ds)) : ∃ a vs, v = .ref a ∧ SqT K H a vs ∧ DAll K H vs ds := by
  cases h with
  | tup h l a => exact ⟨_, _, rfl, h, l, a⟩
theorem D.list (h : D K H v (.list ds)) : ∃ a vs, v = .ref a ∧ SqL K H a vs ∧ DAll K H vs ds := by
  cases h with
  | lst h l a => exact ⟨_, _, rfl, h, l, a⟩
theorem DAll.get (h : DAll K H vs ds) {i : Nat} (e : ds[i]? = some d) : ∃ v, vs[i]? = some v ∧ D K H v d := by
  have hi : i < ds.length := (List.getElem?_eq_some_iff.mp e).1
  rw [← h.len] at hi
  exact ⟨_, List.getElem?_eq_getElem hi, h.all i _ _ (List.getElem?_eq_getElem hi) e⟩
theorem DAll.get' (h : DAll K H vs ds) {i : Nat} (e : vs[i]? = some v) : ∃ d, ds[i]? = some d ∧ D K H v d := by
  have hi : i < vs.length := (List.getElem?_eq_some_iff.mp e).1
  rw [h.len] at hi
  exact ⟨_, List.getElem?_eq_getElem hi, h.all i _ _ e (List.getElem?_eq_getElem hi)⟩
theorem D.int_eq {i : Int} (h : D K H v (.int i)) : v = .int i := by cases h; rfl
theorem D.str_eq {i : Str} (h : D K H v (.str i)) : v = .str i := by cases h; rfl
theorem D.bool_eq {i : Bool} (h : D K H v (.bool i)) : v = .bl i := by cases h; rfl
theorem D.none_eq (h : D K H v .none) : v = .non := by cases h; rfl
/-- t[i], l[i] at i not below 0 -/
theorem ix_dt {i : Int} (h : D K H v (.tuple ds)) (h0 : 0 ≤ i) (e : ds[i.toNat]? = some d) (k : ∀ w, D K H w d → Q w H) : rIx K v (.int i) H Q := by
  obtain ⟨a, ws, rfl, sq, all⟩ := h.tuple
  obtain ⟨w, ew, hw⟩ := all.get e
  exact .inr (.inl ⟨a, ws, i, w, rfl, rfl, sq, atI_of h0 ew, k w hw⟩)
theorem ix_dl {i : Int} (h : D K H v (.list ds)) (h0 : 0 ≤ i) (e : ds[i.toNat]? = some d) (k : ∀ w, D K H w d → Q w H) : rIx K v (.int i) H Q := by
  obtain ⟨a, ws, rfl, sq, all⟩ := h.list
  obtain ⟨w, ew, hw⟩ := all.get e
  exact .inl ⟨a, ws, i, w, rfl, rfl, sq, atI_of h0 ew, k w hw⟩
theorem ix_di {i j : Int} (h : D K H v (.tuple ds)) (h0 : 0 ≤ i) (e : ds[i.toNat]? = some (.int j)) (k : Q (.int j) H) : rIx K v (.int i) H Q :=
  ix_dt h h0 e fun w hw => by rw [hw.int_eq]; exact k
end
end LW
namespace LW
open L2 PySem.Spec PyProof.Rows PySem
/-- an if whose ways meet again -/
theorem viaIf {c : TT} {t u : TS} {D : Ends} {σ : L2.St} {H : Hp} (P : L2.St → Hp → Prop) (h : ∀ D' : Ends, (∀ σ' H', P σ' H' → D'.nx σ' H') → tIfS c t u D' σ H) (k : ∀ σ' H', P σ' H' → D.nx σ' H') : tIfS c t u D σ H := h D k
end LW
namespace LW
open L2 PySem.Spec PyProof.Rows PySem
/-- a method that may be called -/
structure Met (P : Program) (w : World) (K : PySem.W.Frag) (mg : Str → Option Value) (base : Heap) (k : Nat) (C : Addr) (m : Str) (sp : Sp) : Prop where
  ex : ∃ (f : Addr) (fd : FuncData) (ps : List Str), Cls K C ∧ Meth K C m f ∧ FnOk P w K mg base CX0 k f fd ps sp ∧ Binds K fd ps []
section
variable {X : Cx} {k j : Nat} {C : Addr} {m : Str} {sp : Sp} {pos apos : Pos} {e o : Expr} {es : List Expr} {ta : TE} {t : TA}
theorem pe_mt {pl : Sem Bool} (cl : Met X.prog X.w X.K X.mg X.base k C m sp) (hr : Room j X.A) (hk : k ≤ j) (he : PE X o ta) (ha : PA X (e :: es) t)
    (hst : starEach (e :: es) X.env = (false, eval e X.env) :: starEach es X.env := by rfl)
    (hpl : (backTo pos (starEach es X.env)).any (·.1) = false := by rfl)
    (ht : eval (.Call (.Attribute o m apos) (e ::
          es) [] pos) X.env = (do
        let v ← eval o X.env
        standAt apos.atName
        let (g, fst) ← holding [v] (getMethod v m pl)
        callWith pos g fst (backTo pos (starEach (e :: es) X.env)) (backToKw pos (keywordEach [] X.env))) := by rfl) :
    PE X (.Call (.Attribute o m apos) (e :: es) [] pos) (tMeth C m sp [] E0 ta t) := by
  obtain ⟨f, fd, ps, c, me, F, b⟩ := cl.ex
  exact pe_meth (pl := pl) he c me F (hr.mono hk) b .nil pass0 ha hst hpl ht
end
end LW

set_option Elab.async false
set_option linter.all false
set_option maxRecDepth 100000
set_option maxHeartbeats 4000100
/-! enumerate over a tuple -/
namespace LW
open L2 PySem.Spec PyProof.Rows PySem
theorem meets_enum_new1 {v : Value} {o : Obj} {G : Heap → Prop} (B : Begins v o G) :
    Meets (Builtin.«enumerate.__new__» ⟨[.type "enumerate", v], []⟩) (fun _ R s => G s.heap ∧
      R (.ok (.ret (.ref (s.heap.push o).objs.size)))
        { s with heap := (s.heap.push o).push { cls := .type "enumerate", data := .fields #[.none, .bool false, .ref s.heap.objs.size, rawInt 0, .none, .none] } }) :=
  .of_wp fun prog w A R s given => by
    obtain ⟨hp, g, d, tk,
          os⟩ := s
    obtain ⟨g1, r1⟩ := given
    have subs := sub_enumerate
    have begin1 : ∀ {A' : Around} {E : Value → Shared → Prop} {Q : Value → Shared → Prop}, Q (.ref hp.objs.size) ⟨hp.push o, g, d, tk, os⟩ →
        wpAny (model prog w) A' (pyIter v) Q E ⟨hp, g, d, tk, os⟩ := fun q => B.iter prog w _ _ ⟨hp, g, d, tk, os⟩ _ g1 q
    wp_walk using begin1
    refine wpAny_stack_any fun st
          => wpAny_pure ?_
    split
    · rename_i c _ _ _ _ _
      cases (c == Value.type "enumerate") <;>
      · wp_walk using begin1
        exact ⟨_, rfl, r1⟩
    · wp_walk using begin1
      exact ⟨_, rfl, r1⟩
section
variable {prog : Program} {w : World} {A : Around} {E : Value
      → Shared → Prop} {s : Shared}
theorem call_enumerate_tuple {t : Addr} {items : Array Value} {Q : Value → Shared → Prop} (tp : s.heap.IsTuple t items)
    (h : ∀ h', IsEnum h' (s.heap.objs.size + 1) s.heap.objs.size 0 .none → h'.IsTupleIter s.heap.objs.size t 0 →
      (∀ b o, s.heap.get? b = some o → h'.get? b = some o) → Q (.ref (s.heap.objs.size
            + 1)) { s with heap := h' }) :
    wpAny (model prog w) A (call (.type "enumerate") [.ref t]) Q E s := by
  let ob : Obj := { cls := .type "tuple_iterator", data := .fields #[.ref t, .int 0 0] }
  let en : Obj := { cls := .type "enumerate", data := .fields #[.none, .bool false, .ref s.heap.objs.size, rawInt 0, .none, .none] }
  refine callType_new F.called_enumerate (by decide) (F.typeCall_enumerate_1 _) (F.newCall_enumerate_1 _)
    (fun obj => F.args_object_init_2 obj _) F.entry_enumerate_new (meets_enum_new1 (begins_tuple t items)) ⟨tp, ?_⟩
  have size1 : (s.heap.push ob).objs.size = s.heap.objs.size + 1 := Heap.size_push ..
  show _ ∧ _
  have enum1 : IsEnum ((s.heap.push ob).push en) (s.heap.objs.size + 1) s.heap.objs.size 0 .none := by
    have z := Heap.get?_push_size (s.heap.push ob) (o := en) rfl
    rw [size1] at z
    exact z
  have fin := h _ enum1 ⟨ob, Heap.get?_push_of_some _ (Heap.get?_push_size _ rfl), rfl, rfl⟩ (fun b o x => Heap.get?_push_of_some _ (Heap.get?_push_of_some _ x))
  rw [show (s.heap.push { cls := .type "tuple_iterator", data := .fields #[.ref t, .int 0 0] }).objs.size = s.heap.objs.size + 1 from size1]
  exact ⟨⟨_, enum1, rfl⟩, fin⟩
end
/-- the tuple at a at each turn, each item in a new pair -/
def Itet (K : PySem.W.Frag) (a : Addr) : It :=
  ⟨fun i H => ∃ (xs : List V) (x : V), SqT K H a xs ∧ xs[i]? = some x,
   fun i H v H' => ∃ T x, v = .ref T ∧ H T = none ∧ H' = upd H T (.tup [.int (i : Nat), x]) ∧ ∀ xs, SqT K H a xs → xs[i]? = some x,
   fun i H => ∃ xs : List V, SqT K H a xs ∧ xs.length ≤ i⟩
theorem turn_enumT {P : Program} {w : World} {K : PySem.W.Frag} {elts : List Expr} {kk : Nat} {tpos : Pos} (a e it : Addr) :
    Turn P w K (.Tuple elts kk tpos) (Itet K a) [e, it] e (fun i h => (∃ old, IsEnum h e it ((i : Nat) : Int) old) ∧ h.IsTupleIter it a i ∧ e ≠ it) where
  mem := by simp
  obj := by
    rintro i h ⟨⟨old, he⟩, ⟨o, ho, hc, hd⟩, _⟩ b hb
    rcases List.mem_cons.mp
          hb with z | z
    · subst z; exact ⟨_, he, fun v q => nomatch q⟩
    · rw [List.mem_singleton] at z
      subst z
      exact ⟨o, ho, fun v q => by rw [hd] at q; cases q⟩
  keep := by
    rintro i h h' ⟨⟨old, he⟩, hi, hne⟩ k
    exact ⟨⟨old, k e (by simp) _ he⟩, hi.at fun o q => k it (by simp) o q, hne⟩
  item := by
    intro X hP hw hK hc i pins s σ
          H E I hf st hg
    subst hP hw hK
    obtain ⟨⟨old, he⟩, hit,
          hne⟩ := st
    obtain ⟨xs, x, hq, hx⟩ := hg
    obtain ⟨its, rv, p, hz⟩
          := I.tuple hq
    have tp : s.heap.IsTuple a its.toArray := p
    obtain ⟨u, hu, ru⟩ :=
          rv.get hx
    have elt : e < s.heap.objs.size := Heap.lt_size he
    have ilt : it < s.heap.objs.size := by obtain ⟨_, q, _⟩ := hit; exact Heap.lt_size q
    have nai : a ≠ it := by
      intro z
      subst z
      obtain ⟨o1, g1, c1, _⟩ := hit
      obtain ⟨o2, g2, c2, _⟩ := tp
      rw [g1] at g2
      cases g2
      rw [c1] at c2
      exact absurd (Value.type.inj c2) (by decide)
    have nae : e ≠ a := by
      intro z
      subst z
      obtain ⟨o2, g2, c2, _⟩ := tp
      have g1 := he
      unfold IsEnum at g1
      rw [g1] at g2
      cases g2
      exact absurd (Value.type.inj c2) (by decide)
    have ilen : i < its.toArray.size := by
      have := (List.getElem?_eq_some_iff.mp hu).1
      simpa using this
    have dr := Draws.tuple (prog := X.prog) (w := X.w) (A := X.A.in1) (I.ok.hd hc) it a nai its.toArray
    refine wpAny_pyNext_enum_itemD dr he ⟨hit, tp⟩ ilen hne (by simp [hne, nae]) ?_
    intro y h' tk hy out st' newT size' kept
    have ey : y = u := by
      have : its.toArray[i]? = some u := by simpa using hu
      exact Option.some.inj (hy.symm.trans this)
    subst ey
    refine ⟨_, rfl, wpAny_letOwnedTupleGo_enum (s := { s with heap := h', toks := tk + 1 }) out ?_⟩
    intro h2 he2 sb
    have nT : h2.get? s.heap.objs.size = some { cls := .type "tuple", data := .seq #[.int i tk, y] } := (sb.2 _ (Nat.ne_of_gt elt)).trans newT
    have ob : ObjOk X.prog X.w (upd H s.heap.objs.size (.tup [.int (i : Nat), x])) h2 s.heap.objs.size (.tup [.int (i : Nat), x]) := by
      refine ⟨by show 2 ≤ sizeLine; decide, [.int i tk, y], .cons ⟨_, rfl⟩ (.cons ru .nil), ⟨_, nT, rfl, _, rfl⟩⟩
    have I1 : Inv X pins σ (upd H s.heap.objs.size (.tup [.int (i : Nat), x])) { s with heap := h2, toks := tk + 1 } := by
      refine I.turnedNew (ch := [e, it]) ?_ hf (Nat.le_refl _) ob
      intro b o hb q
      have b1 : b ≠ e := fun z => hb (by simp [z])
      have b2 : b ≠ it := fun z => hb (by simp [z])
      exact (sb.2 b b1).trans (kept b o b1 b2 q)
    refine ⟨.ref s.heap.objs.size, _, I1, rfl, ⟨_, x, rfl, I.hok.fresh (Nat.le_refl _), rfl, ?_⟩, ⟨⟨y, ?_⟩, st'.1.at fun o q => (sb.2 it (Ne.symm hne)).trans q, hne⟩, ?_⟩
    · intro ys hys
      rw [I.tuple_inj hys hq]
      exact hx
    · rw [show ((i + 1 : Nat) : Int) = (i : Int) + 1 by omega]
      exact he2
    · intro b hb
      have lt : b < s.heap.objs.size := by
        rcases List.mem_cons.mp
              hb with z | z
        · rw [z]; exact elt
        · rw [List.mem_singleton.mp z]; exact ilt
      rw [upd_ne (Nat.ne_of_lt lt)]
      exact (hf b hb).1
  done := by
    intro X hP hw hK hc i pins s σ
          H E I hf st hg
    subst hP hw hK
    obtain ⟨⟨old, he⟩, hit,
          hne⟩ := st
    obtain ⟨xs, hq, hx⟩ := hg
    obtain ⟨its, rv, p, hz⟩
          := I.tuple hq
    have tp : s.heap.IsTuple a its.toArray := p
    have nai : a ≠ it := by
      intro z
      subst z
      obtain ⟨o1, g1, c1, _⟩ := hit
      obtain ⟨o2, g2, c2, _⟩ := tp
      rw [g1] at g2
      cases g2
      rw [c1] at c2
      exact absurd (Value.type.inj c2) (by decide)
    obtain ⟨f0, f1, f2, f3, f4, f5⟩ :=
          hf it (by simp)
    have ln := rv.length
    have none1 : its.toArray[i]? = none := by simp; omega
    have ty : s.TypeIs (.ref e) "enumerate" := ⟨_, he, rfl⟩
    unfold pyNext
    refine wpAny_bind
          (wpAny_attempt ?_)
    refine wpAny_callSpecial?_slot (name := Str.ofString "__next__") ty F.slot_enumerate_next ?_
    refine wpAny_call_entry F.slot_enumerate_next ty F.entry_enumerate_next ?_ (F.args_enumerate_next_1 _)
    show wpAny _ _ (field (.ref e)
          2 >>= _) _ _ _
    refine wpAny_bind ?_
    refine wpAny_field he rfl (x := .ref it) rfl ?_
    refine wpAny_bind ?_
    refine wpAny_nextOf_tuple_end (I.ok.hd hc) hit tp none1 ?_
    rintro h' x eb ⟨o, ho, hcl⟩
    refine wpAny_bind (wpAny_isInstance (T := "StopIteration") (b := true) ⟨o, ho, hcl⟩ isSubtype_stop ?_)
    refine wpAny_pure ⟨rfl, ?_⟩
    exact I.turned (t' := s.toks) (fun b o hb q => eb b o hb q) f0 f1 f3 f4 f5
  self := by
    rintro A i s Q E ⟨⟨_, he⟩, _⟩ h
    exact wpAny_pyIter_enum he h
def iEnumT (K : PySem.W.Frag) (ta : TA) : TI := fun σ H R => ta σ H fun vs H1 => ∃ a xs, vs = [.ref a] ∧ SqT K H1 a xs ∧ R (Itet K a) H1
theorem pi_enumT {X : Cx} {e : Expr} {ta : TA} {p pos tpos : Pos} {elts : List Expr} {kk : Nat} (hg : Gl X "enumerate") (hm : X.mg "enumerate" = none) (ha : PA X [e] ta)
    (hs : starEach [e] X.env = [(false, eval e X.env)] := by rfl) : PI X (.Tuple elts kk tpos) (.Call (.Name "enumerate" p) [e] [] pos) (iEnumT X.K ta) := by
  constructor
  intro pins s σ H R I h
  refine Call_ (ld_blt I hg hm boot_enumerate (PyProof.Rows.callWith_type1 (thn (ha.run pos pins s σ H _ I h) ?_) hs rfl))
  rintro us s1 ⟨vs, H1, I1, r1, a, xs, ex, hq, q⟩
  subst ex
  obtain ⟨u, rfl, ru⟩
        := vals1 r1
  obtain rfl : u = Value.ref
        a := ru
  obtain ⟨its, rv, tp, hz⟩ := I1.tuple hq
  refine call_enumerate_tuple (items := its.toArray) tp ?_
  intro h' he hit hk
  refine wpAny_pyIter_enum
        he ?_
  refine ⟨s1.heap.objs.size + 1, [s1.heap.objs.size + 1, s1.heap.objs.size], _, _, H1, rfl, I1.kept (t' := s1.toks) hk, turn_enumT a (s1.heap.objs.size + 1) s1.heap.objs.size, ⟨⟨.none, he⟩, hit, Nat.succ_ne_self _⟩, ?_, q⟩
  intro b hb
  have le : s1.heap.objs.size ≤ b := by
    rcases List.mem_cons.mp
          hb with z | z
    · rw [z]; exact Nat.le_succ _
    · rw [List.mem_singleton.mp z]; exact Nat.le_refl _
  exact I1.fpOk le (I1.hok.fresh le)
/-- for i, x in enumerate(t) -/
theorem for_enumT {K : PySem.W.Frag} {a : Addr} {xs : List V} {g : TG} {tb : TS} {D : Ends} {σ : L2.St} {H : Hp} (Pv : Nat → L2.St → Hp → Prop) (h0 : Pv 0 σ H) (hl : ∀ i σ H, i ≤ xs.length → Pv i σ H → SqT K H a xs)
    (hs : ∀ i x σ H T, xs[i]? = some x → Pv i σ H → H T = none → g (.ref T) σ (upd H T (.tup [.int (i : Nat), x])) fun σ2 H2 => tb { D with nx := Pv (i + 1), ct := Pv (i + 1), bk := D.nx } σ2 H2) (hd : ∀ σ H, Pv xs.length σ H → D.nx σ H) :
    ∃ W : Nat → Nat → L2.St → Hp → Prop, (∃ m, W 0 m σ H)
          ∧ ∀ i m σ H, W i m σ H →
      ((Itet K a).stop i H ∧ D.nx σ H) ∨ ((Itet K a).go i H ∧ ∃ N : L2.St → Hp → Prop, (∀ σ' H', N σ' H' → ∃ m', m' < m ∧ W (i + 1) m' σ' H') ∧
        ∀ x H', (Itet K a).yld i H x H' → g x σ H' fun σ2 H2 => tb { D with nx := N, ct := N, bk := D.nx } σ2 H2) := by
  refine ⟨fun i m σ H => m = xs.length - i ∧ i ≤ xs.length ∧ Pv i σ H,
        ⟨xs.length, rfl, Nat.zero_le _, h0⟩, ?_⟩
  rintro i m σ H ⟨rfl, hi, p⟩
  have sq := hl i σ H hi p
  by_cases lt : i < xs.length
  · refine .inr ⟨⟨xs, xs[i], sq, List.getElem?_eq_getElem lt⟩, Pv (i + 1), fun σ' H' p' => ⟨xs.length - (i + 1), by omega, rfl, lt, p'⟩, ?_⟩
    rintro y H' ⟨T, x, rfl, nT, rfl, look⟩
    exact hs i x σ H T (look _ sq) p nT
  · have e : i = xs.length
        := by omega
    subst e
    exact .inl ⟨⟨xs, sq, Nat.le_refl _⟩, hd σ H p⟩
end LW

set_option Elab.async false
set_option linter.all false
set_option maxRecDepth 100000
set_option maxHeartbeats 4000100
/-! C(e, *xs) of an own class; C.m(e), m a staticmethod; o.m(k = e) -/
namespace LW
open PySem PySem.Spec PyProof.Rows L2 StX
section
variable {X : Cx} {CX : CXT} {k j : Nat} {f C : Addr} {sp : Sp} {E : XK} {x : Str} {e1 e2 : Expr} {t1 t2 : TE} {p p2 pos : Pos}
theorem pe_makeS (M : Mk X.K C f) (F : FnR X.prog X.w X.K X.mg X.base CX k f sp) (hr : Room (k + 1) X.A) (hg : Gl X x) (hm : X.mg x = some (.ref C)) (hx : Passes CX X E)
    (h1 : PE X e1 t1) (h2 : PE X e2 t2) (hdb : (x == ("__debug__" : Str)) = false := by decide)
    (hst : starEach [e1, .Starred e2 p2] X.env = [(false, eval e1 X.env), (true, eval e2 X.env)] := by rfl) :
    PE X (.Call (.Name x p) [e1, .Starred e2 p2] [] pos) (tMakeR C sp E (tCons t1 (tStar X.K t2 tNil))) := by
  constructor
  intro pins s σ H Q I h
  refine wpAny_Call_Name_kw (ld_glob
        I hg hm ?_ hdb)
  rw [hst]
  refine PySem.W.ks_call (P := X.K.In) rfl (PySem.W.keeps_K M.kp) (Calls.evalArgs_plain (Calls.spliced_cons (thn (h1.run pins s σ H _ I h) ?_)))
  rintro v1 s1 ⟨y1, H1, I1, r1, q1⟩
  refine PySem.W.ks_spliced (thn (h2.run pins s1 σ H1 _ I1 q1) ?_)
  rintro v2 s2 ⟨y2, H2, I2, r2, t, xs, e, ht, q2⟩
  subst e
  obtain rfl : v2 = Value.ref t := r2
  refine star_any I2 ht ?_
  intro us s3 I3 rv
  refine Calls.spliced_nil ?_
  show X.K.In s3.heap ∧ wpAny (model X.prog X.w) X.A (call (.ref C) (v1 :: (us ++ [])) []) (EP X pins σ Q) X.xe s3
  rw [List.append_nil]
  have q3 : (fun (vs : List V) (H1 : Hp) => ∀ (x dx : Addr), H1 x = Option.none → H1 dx = Option.none → dx ≠ x → sp (V.ref x :: vs) (upd (upd H1 dx (HO.own x)) x (HO.ins C dx [])) (fun v H2 => v = V.non ∧ Q (V.ref x) H2) E) (y1 :: (xs ++ [])) H2 := q2
  rw [List.append_nil] at q3
  exact ⟨I3.kIn, run_makeR M F hr hx I3 (.cons r1 rv) q3⟩
end
/-- a class that may be made, by a positional promise of its __init__ -/
structure MakR (P : Program) (w : World) (K : PySem.W.Frag) (mg : Str → Option Value) (base : Heap) (k : Nat) (x : Str) (C : Addr) (sp : Sp) : Prop where
  ex : ∃ f : Addr, Mk K C f ∧ FnR P w K mg base CX0 k f sp ∧ mg x = some (.ref C)
section
variable {X : Cx} {k j : Nat} {C : Addr} {sp : Sp} {x : Str} {e e1 e2 : Expr} {es : List Expr} {t1 t2 : TE} {t : TA} {p p2 pos : Pos}
theorem pe_mkS (c : MakR X.prog X.w X.K X.mg X.base k x C sp) (hr : Room j X.A) (hk : k + 1 ≤ j) (hg : Gl X x)
    (h1 : PE X e1 t1) (h2 : PE X e2 t2) (hdb : (x == ("__debug__" : Str)) = false := by decide)
    (hst : starEach [e1, .Starred e2 p2] X.env = [(false, eval e1 X.env), (true, eval e2 X.env)] := by rfl) :
    PE X (.Call (.Name x p) [e1, .Starred e2 p2] [] pos) (tMakeR C sp E0 (tCons t1 (tStar X.K t2 tNil))) := by
  obtain ⟨f, M, F, m⟩ := c.ex
  exact pe_makeS M F (hr.mono hk) hg m pass0 h1 h2 hdb hst
theorem pe_mkP (c : MakR X.prog X.w X.K X.mg X.base k x C sp) (hr : Room j X.A) (hk : k + 1 ≤ j) (hg : Gl X x) (ha : PA X (e :: es) t) (hdb : (x == ("__debug__" : Str)) = false := by decide)
    (he : starEach (e :: es) X.env = (false, eval e X.env) :: starEach es X.env := by
          rfl) (hpl : (backTo pos (starEach es X.env)).any (·.1) = false := by rfl) :
    PE X (.Call (.Name x p) (e :: es) [] pos) (tMakeR C sp E0 t) := by
  obtain ⟨f, M, F, m⟩ := c.ex
  exact pe_makeR M F (hr.mono hk) hg m pass0 ha hdb he hpl
end
end LW
/-! ### a staticmethod of a class, called by the class -/
namespace LW
open PySem PySem.Spec PyProof.Rows L2 StX ClX
structure SMet (K : PySem.W.Frag) (C : Addr) (mc : Value) (m : Str) (p g : Addr) : Prop where
  rd : CRead K C mc
  at_ : PySem.W.findCls K (.ref C) mc m = some (.get (.builtin "staticmethod.__get__") (.ref p) .none (.ref C))
  rc : ∃ rest, PySem.W.recIn K p "staticmethod" = some (.ref g :: rest)
  kp : PySem.W.keepIn K (.ref g) = true
section
variable {X : Cx} {pins : List (Addr × Obj)} {σ : L2.St} {H : Hp} {s : Shared} {C p g : Addr} {mc : Value} {m : Str} {A : Around} {E : Value → Shared → Prop}
theorem getsm_ok {pl : Sem Bool} {Q : Value × List Value → Shared → Prop} (I : Inv X pins σ H s) (k : SMet X.K C mc m p g) (h : ∀ s', Inv X pins σ H s' → Q (.ref g, []) s') :
    wpAny (model X.prog X.w) A (getMethod (.ref C) m pl) Q E s := by
  refine PySem.W.method_cls I.kIn k.rd.ga ?_
  obtain ⟨rest, hp⟩ := k.rc
  refine PySem.W.cls_bind I.kIn k.rd.rd k.at_ ?_
  refine wpAny_call (PySem.W.sm_get (s := { s with toks := s.toks + 1 }) I.kIn hp (PySem.W.handed_on rfl ?_))
  exact h _ (I.tok _)
end
/-- .. that may be called so -/
structure Sta (P : Program) (w : World) (K : PySem.W.Frag) (mg : Str → Option Value) (base : Heap) (k : Nat) (x : Str) (m : Str) (sp : Sp) : Prop where
  ex : ∃ (C : Addr) (mc : Value) (p g : Addr) (fd : FuncData) (ps : List Str), mg x = some (.ref C) ∧ SMet K C mc m p g ∧ FnOk P w K mg base CX0 k g fd ps sp ∧ Binds K fd ps []
section
variable {X : Cx} {k j : Nat} {x m : Str} {sp : Sp} {e : Expr} {es : List Expr} {t : TA} {np apos pos : Pos}
theorem pe_sta {pl : Sem Bool} (c : Sta X.prog X.w X.K X.mg X.base k x m sp) (hr : Room j X.A) (hk : k ≤ j) (hg : Gl X x) (ha : PA X (e :: es) t) (hdb : (x == ("__debug__" : Str)) = false := by decide)
    (hst : starEach (e :: es) X.env = (false, eval e X.env) :: starEach es X.env := by rfl)
    (hpl : (backTo pos (starEach es X.env)).any (·.1) = false := by rfl)
    (ht : eval (.Call (.Attribute (.Name x np) m apos) (e
          :: es) [] pos) X.env = (do
        let v ← eval (.Name x np) X.env
        standAt apos.atName
        let (g, fst) ← holding [v] (getMethod v m pl)
        callWith pos g fst (backTo pos (starEach (e :: es) X.env)) (backToKw pos (keywordEach [] X.env))) := by rfl) :
    PE X (.Call (.Attribute (.Name x np) m apos) (e :: es) [] pos) (tCall sp [] E0 t) := by
  obtain ⟨C, mc, p, g, fd, ps, gx, sm, F, b⟩ := c.ex
  constructor
  intro pins s σ H Q I h
  refine PySem.W.methodCall_KW (pl := pl) (ld_glob I hg gx ?_ hdb) ht
  refine getsm_ok I sm ?_
  intro s1 I1
  refine PySem.W.callWith_K (h₀ := X.base) I.ok.mod.kin sm.kp (thn (ha.run pos pins s1 σ H _ I1 h) ?_) hst hpl
  rintro us s2 ⟨vs, H2, I2, rv, q⟩
  exact ⟨I2.kIn, run_fn F (hr.mono hk) b .nil pass0 I2 rv q⟩
end
/-! ### o.m(k = e) -/
section
variable {X : Cx} {k j : Nat} {C : Addr} {m : Str} {sp : Sp} {o : Expr} {kws : List Keyword} {ta : TE} {tk : TA} {apos pos : Pos}
/-- a method that may be called with one keyword -/
structure MetK (P : Program) (w : World) (K : PySem.W.Frag) (mg : Str → Option Value) (base : Heap) (k : Nat) (C : Addr) (m : Str) (ks : List Str) (sp : Sp) : Prop where
  ex : ∃ (f : Addr) (fd : FuncData) (ps : List Str), Cls K C ∧ Meth K C m f ∧ FnOk P w K mg base CX0 k f fd ps sp ∧
    ∀ (s : Shared) (u : Value) (ws : List Value), K.In s.heap → (u :: ws).length = ps.length → BindsTo s fd ⟨[u], ks.zip ws⟩ (ps.zip (u :: ws))
theorem pe_mtk {pl : Sem Bool} {ks : List Str} (c : MetK X.prog X.w X.K X.mg X.base k C m ks sp) (hr : Room j X.A) (hk : k ≤ j) (he : PE X o ta) (hkw : PK X kws tk)
    (hall : (backToKw pos (keywordEach kws X.env)).all (·.1.isSome) = true := by rfl)
    (hks : (backToKw pos (keywordEach kws X.env)).filterMap (·.1) = ks := by rfl)
    (hplain : ((backTo pos (starEach [] X.env)).any (·.1) || (backToKw pos (keywordEach kws X.env)).any (·.1.isNone)) = false := by rfl)
    (ht : eval (.Call (.Attribute o m apos) [] kws pos) X.env = (do
        let v ← eval o X.env
        standAt apos.atName
        let (g, fst) ← holding [v] (getMethod v m pl)
        callWith pos g fst (backTo pos (starEach [] X.env)) (backToKw pos (keywordEach kws X.env))) := by rfl) :
    PE X (.Call (.Attribute o m apos) [] kws pos) (tMeth C m sp [] E0 ta tk) := by
  obtain ⟨f, fd, ps, cl, me, F, b⟩ := c.ex
  constructor
  intro pins s σ H Q I h
  refine PySem.W.methodCall_KW (pl := pl) (thn (he.run pins s σ H _ I h) ?_) ht
  rintro u s1 ⟨x, H1, I1, rx, a, dx, fs, ex, ea, l, q⟩
  subst ex
  obtain rfl : u = Value.ref
        a := rx
  refine getmeth_ok I1 ea cl me l ?_
  refine PySem.W.callWith_KW0 (first := [.ref a]) (h₀ := X.base) I.ok.mod.kin me.kp hall (thn (hkw.run pos pins s1 σ H1 _ I1 q) ?_) hplain
  rintro ws s2 ⟨zs, H2, I2, rz, q2⟩
  refine ⟨I2.kIn, ?_⟩
  rw [hks]
  have q3 : sp (V.ref a :: (zs ++ [])) H2 Q E0 := q2
  rw [List.append_nil] at q3
  have rel : Vals (V.ref a :: zs) (Value.ref a :: ws) := .cons rfl rz
  have ln : (Value.ref a :: ws).length = ps.length := rel.length ▸ F.len _ _ _ _ q3
  refine wpAny_call (codeAny_mono (F.run X.A X.stack s2 H2 ⟨[.ref a], ks.zip ws⟩ (.ref a :: ws) (.ref a :: zs) Q E0 (hr.mono hk) I2.env0 (b s2 (.ref a) ws I2.kIn ln) rel q3) ?_)
  intro res s' fin
  match res, fin with
  | .error er, fin => exact pass0 pins σ H2 s2 er s' I2 fin
  | .ok (.ret u), fin => exact I2.after fin
  | .ok .next, fin => exact fin.elim
  | .ok .brk, fin => exact fin.elim
  | .ok .cont, fin => exact fin.elim
end
end LW

set_option Elab.async false
set_option linter.all false
set_option maxRecDepth 100000
set_option exponentiation.threshold 17000
/-! math.lcm of two ints of less than 8000 bits. -/
namespace LW
open L2 PySem.Spec PyProof.Rows PySem
theorem lcm_le (m n : Nat) : m.lcm n ≤ m * n := by
  unfold Nat.lcm
  exact Nat.div_le_self _ _
def rLcm : List V → Hp → VK → Prop := fun vs H Q => ∃ a b : Int, vs = [.int a, .int b] ∧ a.natAbs < 2 ^ 8000 ∧ b.natAbs < 2 ^ 8000 ∧ Q (.int ((Nat.lcm a.natAbs b.natAbs : Nat) : Int)) H
theorem cr_lcm {X : Cx} : CallR X (.builtin "math.lcm") rLcm := by
  intro pins s σ H vs
        us Q I r h
  obtain ⟨a, b, rfl, ha, hb, q⟩ := h
  obtain ⟨t, u, rfl⟩ :=
        Vals.int2 r
  have e1 : Nat.lcm 1 a.natAbs = a.natAbs := by simp [Nat.lcm]
  have l1 : (max 1 a.natAbs).log2 ≤ 7999 := PySem.W.mg_log (by
    have : 1 < 2 ^ (7999 + 1) := Nat.one_lt_two_pow (by decide)
    have e : 7999 + 1 = 8000 := rfl
    rw [e] at this ⊢
    exact Nat.max_lt.mpr ⟨this, ha⟩)
  have l2 : (max a.natAbs b.natAbs).log2 ≤ 7999 := PySem.W.mg_log (by
    have e : 7999 + 1 = 8000 := rfl
    rw [e]
    exact Nat.max_lt.mpr ⟨ha, hb⟩)
  have sz : ((((Nat.lcm 1 a.natAbs).lcm b.natAbs : Nat) : Int)).natAbs.log2 < bitsLine := by
    rw [e1, Int.natAbs_natCast]
    have z : a.natAbs.lcm b.natAbs < 2 ^ (15999 + 1) := by
      have z1 := Nat.mul_lt_mul'' ha hb
      rw [← Nat.pow_add] at z1
      exact Nat.lt_of_le_of_lt (lcm_le _ _) z1
    have := PySem.W.mg_log z
    have e : bitsLine = 134217728
          := by decide
    rw [e]
    omega
  refine PySem.call_function_meets PySem.W.MGF.kind_lcm PySem.W.MGF.plain_lcm PySem.W.MGF.entry_lcm (PySem.W.MGF.args_lcm _ _) (PySem.W.mg_run_lcm a t b u (by omega) (by omega) sz).meets ?_
  rw [e1]
  exact ⟨.int _, H, I.tok _, ⟨_, rfl⟩, q⟩
end LW

set_option Elab.async false
set_option linter.all false
set_option maxRecDepth 100000
set_option maxHeartbeats 4000100
/-! set(xs) of a list of ints -/
namespace LW
open L2 PySem.Spec PyProof.Rows PySem
section
variable {P : Program} {w : World} {A : Around} {E : Value
      → Shared → Prop} {s : Shared}
/-- the new, empty set -/
abbrev fresh0 (w : World) : Obj := { cls := .type "set", dict := none, data := .set #[] 0 (.fresh 0 0 (!w.params.followText "set-order")) }
set_option maxHeartbeats 6400000 in
theorem call_set_listI {l : Addr} {items : Array Value} (ns : List Int) {Q : Value → Shared → Prop} (calm : A.handled = none) (il : s.heap.IsList l items) (areInts : IntsAre items.toList ns) (room : ns.length + 1 < scanBound)
    (h : ∀ (h' : Heap) (tk c : Nat), SetR w h' s.heap.objs.size (fun j => decide (j ∈ ns)) c → c ≤ ns.length →
      (∀ b o, s.heap.get? b = some o → h'.get? b = some o) → Q (.ref s.heap.objs.size) { s with heap := h', toks := tk }) :
    wpAny (model P w) A (call (.type "set")
          [.ref l]) Q E s := by
  have many : items.size = ns.length := by
    have q := IntsAre.length areInts
    rwa [Array.length_toList] at q
  obtain ⟨mc, ml, mro⟩ := F.called_set.mro
  have made := F.called_set.made
  have subs := F.called_set.sub
  refine wpAny_call ?_
  refine codeAny_of_tree ?_
  show wpAny _ _ (callAny (.type
        "set") _) _ _ _
  refine wpAny_pure ⟨Code.quiet_builtin _ (by decide +kernel), ?_⟩
  refine codeAny_builtin F.entry_type_call ?_
  rw [Around.under_plain (weight_type_call_type
        "set" [.ref l] []) rfl]
  have not_type := F.called_set.notType
  have may_make := F.called_set.canCreate
  have type_call := F.typeCall_set_1 (.ref l)
  repeat any_goals (first | assumption | wp_step)
  refine codeAny_mono (code_set_led1 (.ref l) (E := E)
    (Q₁ := fun obj s₁ => obj = .ref s.heap.objs.size ∧ s₁ = { s with heap := s.heap.push (fresh0 w) }) ⟨rfl, rfl⟩) ?_
  intro r s₁ hr
  match r, hr with
  | .error e, hr => exact hr
  | .ok .next, hr => exact hr.elim
  | .ok .brk, hr => exact hr.elim
  | .ok .cont, hr => exact hr.elim
  | .ok (.ret obj), hr =>
    obtain ⟨rfl, rfl⟩ := hr
    have at0 : (s.heap.push (fresh0 w)).get? s.heap.objs.size = some (fresh0 w) := Heap.get?_push_size _ rfl
    have ty0 : Shared.TypeIs { s with heap := s.heap.push (fresh0 w) } (.ref s.heap.objs.size) "set" := ⟨_, at0, rfl⟩
    have init_at := F.called_set.init.lookup
    have init_to := F.called_set.init.bind (.ref s.heap.objs.size)
    repeat any_goals (first | assumption | wp_step)
    refine codeAny_mono (codeAny_call_builtin (R := wants (fun r s₂ => r = .none ∧ ∃ h' tk c, s₂ = { s with heap := h', toks := tk } ∧
        SetR w h' s.heap.objs.size (fun j => decide (j ∈ ns)) c ∧ c ≤ ns.length ∧ (∀ b o, s.heap.get? b = some o → h'.get? b = some o)) E)
        F.called_set.init.plain F.entry_set_init (check_set_init_1 ty0 ?_)) ?_
    · obtain ⟨⟨cl, di, da, sl⟩, hol, hcl, nl, hdl⟩ := il
      simp only at hcl hdl
      subst hcl
      subst hdl
      have at1 : (s.heap.push (fresh0 w)).get? l = some { cls := .type "list", dict := di, data := .seq items nl, slots := sl } := Heap.get?_push_of_some _ hol
      have no_set := F.sub_list_set
      have no_fset := F.sub_list_frozenset
      have no_dict : (Value.type "list" == Value.type "dict") = false := by decide
      have il1 : (s.heap.push (fresh0 w)).IsList l items := ⟨_, at1, rfl, nl, rfl⟩
      unfold Builtin.«set.__init__» noKeywords
            Builtin.Frozenset.updateFrom
      generalize hPI : pyIter = PI
      wp_walk
      subst hPI
      refine wpAny_pyIter_list il1 ?_
      refine wpAny_bind ?_
      refine wpAny_runValue ?_
      have llt : l < s.heap.objs.size := Heap.lt_size hol
      have calm3 : A.in1.in1.in1.handled = none := by simp [calm]
      have size1 : (s.heap.push (fresh0 w)).objs.size = s.heap.objs.size + 1 := Heap.size_push ..
      have lne : l ≠ (s.heap.push (fresh0 w)).objs.size := by
        rw [size1]
        exact Nat.ne_of_lt (Nat.lt_succ_of_lt llt)
      have out2 : s.heap.objs.size ∉ [(s.heap.push (fresh0 w)).objs.size, l] := by
        rw [size1]
        intro z
        rcases List.mem_cons.mp
              z with z | z
        · exact absurd z (Nat.ne_of_lt (Nat.lt_succ_self _))
        · exact absurd (List.mem_singleton.mp z) (Nat.ne_of_gt llt)
      have vals : ∀ (i : Nat) (v : Value), items[i]? = some v → ∃ k t, ns[i]? = some k ∧ v = .int k t := by
        intro i v hv
        have hi : i < ns.length := by
          rw [← many]
          exact (Array.getElem?_eq_some_iff.mp hv).1
        obtain ⟨t, e⟩ := PyProof.Rows.IntsAre.int_at areInts i v (by rw [Array.getElem?_toList]; exact hv)
        refine ⟨ns[i], t, List.getElem?_eq_getElem
              hi, ?_⟩
        rw [e, List.getD_eq_getElem?_getD, List.getElem?_eq_getElem hi]
        rfl
      have sub0 : ((s.heap.push (fresh0 w)).push { cls := .type "list_iterator", data := .fields #[.ref l, .int 0 0] }).get? s.heap.objs.size = some (fresh0 w) := Heap.get?_push_of_some _ at0
      refine set_update_ints ((Walks.list calm3 _ l lne items).toS) s.heap.objs.size out2 ns many room vals (items.size - 0) 0 _ (by omega) (Nat.zero_le _)
        ⟨⟨_, Heap.get?_push_size _ rfl, rfl, rfl⟩, (il1.push _)⟩ ⟨0, Nat.le_refl 0, setR_new_at sub0⟩ ?_
      intro s' c' mv lc R'
      obtain ⟨h', g2, d', tk',
            os'⟩ := s'
      have eg : g2 = s.gens := mv.gens
      have ed : d' = s.drawn := mv.drawn
      have eo : os' = s.os := mv.os
      subst eg
      subst ed
      subst eo
      show wpAny _ _ _ _ _ _
      refine wpAny_pure ?_
      show wpAny _ _ (ret
            Value.none) _ _ _
      rw [many] at lc
      refine wpAny_pure ⟨rfl, h', tk', c', rfl, R', lc, ?_⟩
      intro b o e
      have lt : b < s.heap.objs.size := Heap.lt_size e
      refine mv.heap b o ?_ (Heap.get?_push_of_some _ (Heap.get?_push_of_some _ e))
      rw [size1]
      intro z
      rcases List.mem_cons.mp
            z with z | z
      · exact absurd z (Nat.ne_of_lt lt)
      · exact absurd (List.mem_singleton.mp z) (Nat.ne_of_lt (Nat.lt_succ_of_lt lt))
    · intro r₂ s₂ hr₂
      match r₂, hr₂ with
      | .error e, hr₂ => exact hr₂
      | .ok .next, hr₂ => exact hr₂.elim
      | .ok .brk, hr₂ => exact hr₂.elim
      | .ok .cont, hr₂ => exact hr₂.elim
      | .ok (.ret r), hr₂ =>
        obtain ⟨rfl, h', tk, c', rfl, R', lc, keep⟩ := hr₂
        repeat any_goals (first | assumption | wp_step)
        exact h _ _ _ R' lc keep
end
section
variable {X : Cx}
/-- set(xs) -/
theorem cr_setL (hc : X.calm = true) : CallR X (.type "set") (fun xs H Q => ∃ (l : Addr) (ns : List Int), xs = [.ref l] ∧ SqL X.K H l (ns.map V.int) ∧ ns.length ≤ 60 ∧
    ∀ p n, H p = none → n ≤ ns.length → Q (.ref p) (upd H p (SetO X.w p (fun j => decide (j ∈ ns)) n))) := by
  intro pins s σ H xs
        us Q I r h
  obtain ⟨l, ns, rfl, hl, hn, q⟩ := h
  obtain ⟨its, rv, p, hz⟩ := I.list hl
  rw [Vals.ref1 r]
  refine call_set_listI ns (I.ok.hd hc) p.isList (by simpa using rv.ints) (Nat.lt_of_le_of_lt (Nat.add_le_add_right hn 1) (by decide)) ?_
  intro h' tk n R le hk
  have new : H s.heap.objs.size = none := I.hok.fresh (Nat.le_refl _)
  refine ⟨.ref _, upd H s.heap.objs.size (SetO X.w s.heap.objs.size (fun j => decide (j ∈ ns)) n), I.laid (t' := tk) hk (Nat.le_refl _) (setO_new R), rfl, q _ n new le⟩
end
end LW

set_option Elab.async false
set_option linter.all false
set_option maxRecDepth 100000
set_option maxHeartbeats 4000100
/-! repr of a list [text, data, bool], the data an empty dict or without dicts -/
namespace LW
open L2 PySem.Spec PyProof.Rows PySem
section
variable {X : Cx}
/-- {}: its address is not that of sys.modules -/
def tDNewS : TE := fun _ H Q => ∀ p, H p = none → p ≠ sysModules → Q (.ref p) (upd H p (.dK []))
theorem pe_dnewS {pos : Pos} : PE X (.Dict [] [] pos) tDNewS := by
  refine ⟨fun pins s σ H
        Q I h => ?_⟩
  have big : s.heap.objs.size ≠ sysModules := by
    obtain ⟨o, es, ep, e, _⟩ := I.ok.mod.glob
    have b1 : (3 : Nat) < s.heap.objs.size := Heap.lt_size (I.bk _ _ e)
    have b2 : s.heap.objs.size ≠ (1 : Nat) := by omega
    exact b2
  refine wpAny_Dict_empty ⟨.ref s.heap.objs.size, _, ?_, rfl, h _ (I.hok.fresh (Nat.le_refl _)) big⟩
  exact I.laid (t' := s.toks) (a := s.heap.objs.size) (o := .dK []) (fun _ _ q => Heap.get?_push_of_some _ q) (Nat.le_refl _) (dk_empty s.heap I.big)
theorem call_reprS (quiet : X.A.guards = some []) {k : Nat} (hr : Room k X.A) : CallR X (.builtin "repr") (fun xs H Q => ∃ (a : Addr) (vs : List V) (x : Str) (d : PyData) (b : Bool), xs = [.ref a] ∧ SqL X.K H a vs ∧ DAll X.K H vs [.str x, d, .bool b] ∧ (d.hasDict = false ∨ d = .dict []) ∧
    (PyData.list [.str x, d, .bool b]).showable = true ∧ (PyData.list [.str x, d, .bool b]).depth ≤ 60 ∧ (PyData.list [.str x, d, .bool b]).shown.length ≤ sizeLine ∧ Q (.str (PyData.list [.str x, d, .bool b]).shown) H) := by
  intro pins s σ H xs
        us Q I r h
  obtain ⟨a, vs, x, d, b, rfl, sq, all, hd, hs, hdep, hsz, q⟩ := h
  rcases hd with hd | rfl
  · refine call_reprD quiet hr pins s σ H _ us Q I r ⟨a, _, rfl, D.lst' sq all, hs, ?_, hdep, hsz, q⟩
    simp [PyData.hasDict, PyData.hasDictAll, hd]
  · obtain ⟨u, rfl, ru⟩ := vals1 r
    obtain rfl : u = Value.ref
          a := ru
    have un := hr.un
    obtain ⟨v0, w0, rfl, d0, all⟩ : ∃ v0 w0, vs = v0 :: w0 ∧ D X.K H v0 (.str x) ∧ DAll X.K H w0 [.dict [], .bool b] := by
      cases vs with
      | nil => exact absurd all.len (by simp)
      | cons v0 w0 => exact ⟨v0, w0, rfl, all.all 0 _ _ rfl rfl, by have := all.len; simpa using this, fun i v e h1 h2 => all.all (i + 1) v e h1 h2⟩
    obtain ⟨v1, w1, rfl, d1, all⟩ : ∃ v1 w1, w0 = v1 :: w1 ∧ D X.K H v1 (.dict []) ∧ DAll X.K H w1 [.bool b] := by
      cases w0 with
      | nil => exact absurd all.len (by simp)
      | cons v0 w0 => exact ⟨v0, w0, rfl, all.all 0 _ _ rfl rfl, by have := all.len; simpa using this, fun i v e h1 h2 => all.all (i + 1) v e h1 h2⟩
    obtain ⟨v2, rfl, d2⟩ : ∃ v2, w1 = [v2] ∧ D X.K H v2 (.bool b) := by
      cases w1 with
      | nil => exact absurd all.len (by simp)
      | cons v0 w0 =>
        have ln := all.len
        cases w0 with
        | nil => exact ⟨v0, rfl, all.all 0 _ _ rfl rfl⟩
        | cons y z => simp at ln
    obtain ⟨its, rv, ⟨o, n, ho, hc, _, hdat⟩, _⟩ := I.list sq
    cases d0
    cases d1 with
    | @dct p hp ne =>
    cases d2
    obtain ⟨t, u1, u2, rfl, e1, e2⟩ : ∃ t u1 u2, its = [.str x t, u1, u2] ∧ u1 = .ref p ∧ u2 = .bool b := by
      cases rv with
      | cons r0 rv =>
        cases rv with
        | cons r1 rv =>
          cases rv with
          | cons r2 rv =>
            cases rv
            obtain ⟨t, rfl⟩ := r0
            exact ⟨t, _, _, rfl, r1, r2⟩
    subst e1
    subst e2
    obtain ⟨as1, rd, off⟩ : ∃ as, Reads s.heap (.ref p) (.dict []) as ∧ sysModules ∉ as := by
      obtain ⟨_, _, ws, kv, o', es, ep, ho', ⟨hc', _, _⟩, hd', _, prs, _⟩ := I.hok _ _ hp
      cases kv
      have e0 : es.toList = [] := by
        cases q : es.toList with
        | nil => rfl
        | cons x r => rw [q] at prs; cases prs
      refine ⟨p :: [] ++ [], Reads.dict ho' hc' hd' (as := []) (bs := []) ?_ ?_, ?_⟩
      · rw [e0]; exact .nil
      · rw [e0]; exact .nil
      · simpa using fun z => ne z.symm
    have RA : ReadsAll s.heap [.str x t, .ref p, .bool b] [.str x, .dict [], .bool b] ([] ++ (as1 ++ ([] ++ []))) := .cons (.str x t) (.cons rd (.cons (.bool b) .nil))
    have hz : (listText (PyData.shownAll [.str x, .dict [], .bool b])).length ≤ sizeLine := hsz
    obtain ⟨bs, hb, hk⟩ := ReprAllK.of_readsAll (prog := X.prog) (w := X.w) RA (by simpa [PyData.showable] using hs) (fun _ hm => off (by simpa using hm)) (fun y hy => Nat.le_trans (listText_mem_le hy) hz)
    have hna : a ∉ bs := by
      refine not_mem_of_deeper (Reads.list ho hc hdat RA) ?_ hb
      simp only [PyData.depth]
      omega
    have dd : (PyData.list [.str x, .dict [], .bool b]).depth = PyData.depthAll [.str x, .dict [], .bool b] + 1 := by simp only [PyData.depth]
    refine call_repr_slot (by omega) ⟨o, ho, hc⟩ F.slot_list_repr.toG ?_
    refine call_list_reprK (x := .str x t) (l := [.ref p, .bool b]) ho hc hdat hna rfl (fun i y e => hk.item i y (by simpa using e)) quiet (fun b _ => Clear.nil b) ?_ (fun _ _ e => e) ?_ hz
    · show X.A.units + 1 + _ < cLine
      omega
    · intro h' u tk keep
      exact ⟨_, _, rfl, V.str _, H, I.kept keep, ⟨_, rfl⟩, q⟩
end
end LW

set_option Elab.async false
set_option linter.all false
set_option maxRecDepth 100000
set_option maxHeartbeats 4000100
/-! plain data: what a text of plain values computes, told without the heap; the states that hold such values -/
namespace LW
open L2 PySem.Spec PyProof.Rows PySem

/-- plain values; tnk: a thing that changes, of a kind; obj: a thing of one's own that stays as it is, of a kind; fn: what stands under a name -/
inductive Dt where
  | non | bl (b : Bool) | int (i : Int) | str (x : Str) | lst (l : List Dt) | tup (l : List Dt) | dct
  | ty (n : String) | tnk (k : Nat) | obj (k : Nat) (d : Dt) | fn (x : Str)

/-- what is fixed: the written part, the names, what things of one's own are, what changing things look like -/
structure Su where
  K : PySem.W.Frag
  mg : Str → Option Value
  ob : Nat → Dt → Hp → V → Prop
  obm : ∀ {k : Nat} {d : Dt} {H H' : Hp} {v : V}, Same H H' → ob k d H v → ob k d H' v
  obr : ∀ {k : Nat} {d : Dt} {H : Hp} {v : V}, ob k d H v → ∃ a, v = .ref a
  md : Nat → HO → Prop

/-- the changing things: where, of which kind -/
abbrev Mu := List (Addr × Nat)
def MOk (S : Su) (M : Mu) (H : Hp) : Prop := ∀ e ∈ M, ∃ o, H e.1 = some o ∧ S.md e.2 o

/-- v is the value d -/
inductive Da (S : Su) (M : Mu) (H : Hp) : V → Dt → Prop
  | non : Da S M H .non .non
  | bl (b : Bool) : Da S M H (.bl b) (.bl b)
  | int (i : Int) : Da S M H (.int i) (.int i)
  | str (x : Str) : Da S M H (.str x) (.str x)
  | lst {a : Addr} {xs : List V} {ds : List Dt} (h : H a = some (.lst xs)) (len : xs.length = ds.length) (all : ∀ (i : Nat) (v : V) (d : Dt), xs[i]? = some v → ds[i]? = some d → Da S M H v d) : Da S M H (.ref a) (.lst ds)
  | tup {a : Addr} {xs : List V} {ds : List Dt} (h : SqT S.K H a xs) (len : xs.length = ds.length) (all : ∀ (i : Nat) (v : V) (d : Dt), xs[i]? = some v → ds[i]? = some d → Da S M H v d) : Da S M H (.ref a) (.tup ds)
  | dct {a : Addr} (h : H a = some (.dK [])) (ne : a ≠ sysModules) : Da S M H (.ref a) .dct
  | ty (n : String) : Da S M H (.ty n) (.ty n)
  | tnk {a : Addr} {k : Nat} (h : (a, k) ∈ M) : Da S M H (.ref a) (.tnk k)
  | obj {v : V} {k : Nat} {d : Dt} (h : S.ob k d H v) : Da S M H v (.obj k d)
  | fn {v : V} {x : Str} {u : Value} (h : S.mg x = some u) (r : RelV v u) : Da S M H v (.fn x)
structure Das (S : Su) (M : Mu) (H : Hp) (xs : List V) (ds : List Dt) : Prop where
  len : xs.length = ds.length
  all : ∀ (i : Nat) (v : V) (d : Dt), xs[i]? = some v → ds[i]? = some d → Da S M H v d
section
variable {S : Su} {M : Mu} {H H' : Hp} {v w : V} {d e : Dt} {vs ws : List V} {ds es : List Dt} {a : Addr}
theorem Das.nil : Das S M H [] [] := ⟨rfl, fun i v d h => by simp at h⟩
theorem Das.cons (h : Da S M H v d) (r : Das S M H vs ds) : Das S M H (v :: vs) (d :: ds) :=
  ⟨by rw [List.length_cons, List.length_cons, r.len], fun i w e h1 h2 => by
    cases i with
    | zero => cases h1; cases h2; exact h
    | succ i => exact r.all i w e h1 h2⟩
theorem Das.of_cons (h : Das S M H vs (d :: ds)) : ∃ v ws, vs = v :: ws ∧ Da S M H v d ∧ Das S M H ws ds := by
  obtain ⟨l, q⟩ := h
  cases vs with
  | nil => simp at l
  | cons v ws => exact ⟨v, ws, rfl, q 0 v d rfl rfl, by simpa using l, fun i w e h1 h2 => q (i + 1) w e h1 h2⟩
theorem Das.of_nil (h : Das S M H vs []) : vs = [] := List.length_eq_zero_iff.mp h.len
theorem Das.app (h : Das S M H vs ds) (r : Das S M H ws es) : Das S M H (vs ++ ws) (ds ++ es) := by
  induction ds generalizing vs with
  | nil => rw [h.of_nil]; exact r
  | cons c ds ih =>
    obtain ⟨v, vs', rfl, q, r'⟩ := h.of_cons
    exact .cons q (ih r')
theorem Das.get (h : Das S M H vs ds) {i : Nat} (e : ds[i]? = some d) : ∃ v, vs[i]? = some v ∧ Da S M H v d := by
  have hi : i < ds.length := (List.getElem?_eq_some_iff.mp e).1
  rw [← h.len] at hi
  exact ⟨_, List.getElem?_eq_getElem hi, h.all i _ _ (List.getElem?_eq_getElem hi) e⟩
theorem Das.get' (h : Das S M H vs ds) {i : Nat} (e : vs[i]? = some v) : ∃ d, ds[i]? = some d ∧ Da S M H v d := by
  have hi : i < vs.length := (List.getElem?_eq_some_iff.mp e).1
  rw [h.len] at hi
  exact ⟨_, List.getElem?_eq_getElem hi, h.all i _ _ e (List.getElem?_eq_getElem hi)⟩
theorem Das.take (n : Nat) (h : Das S M H vs ds) : Das S M H (vs.take n) (ds.take n) :=
  ⟨by rw [List.length_take, List.length_take, h.len], fun i v d h1 h2 => by
    have i1 : i < n := by
      have := (List.getElem?_eq_some_iff.mp h1).1
      rw [List.length_take] at this
      omega
    rw [List.getElem?_take_of_lt i1] at h1 h2
    exact h.all i v d h1 h2⟩
theorem Das.drop (n : Nat) (h : Das S M H vs ds) : Das S M H (vs.drop n) (ds.drop n) :=
  ⟨by rw [List.length_drop, List.length_drop, h.len], fun i v d h1 h2 => by
    rw [List.getElem?_drop] at h1 h2
    exact h.all _ v d h1 h2⟩
theorem Das.rev (h : Das S M H vs ds) : Das S M H vs.reverse ds.reverse :=
  ⟨by rw [List.length_reverse, List.length_reverse, h.len], fun i v d h1 h2 => by
    have i1 : i < vs.length := by
      have := (List.getElem?_eq_some_iff.mp h1).1
      rwa [List.length_reverse] at this
    rw [List.getElem?_reverse i1] at h1
    rw [List.getElem?_reverse (by rw [← h.len]; exact i1), ← h.len] at h2
    exact h.all _ v d h1 h2⟩
theorem Da.lst' (h : H a = some (.lst vs)) (r : Das S M H vs ds) : Da S M H (.ref a) (.lst ds) := .lst h r.len r.all
theorem Da.tup' (h : SqT S.K H a vs) (r : Das S M H vs ds) : Da S M H (.ref a) (.tup ds) := .tup h r.len r.all
theorem Da.list (h : Da S M H v (.lst ds)) : ∃ a vs, v = .ref a ∧ H a = some (.lst vs) ∧ Das S M H vs ds := by
  cases h with
  | lst h l a => exact ⟨_, _, rfl, h, l, a⟩
theorem Da.tuple (h : Da S M H v (.tup ds)) : ∃ a vs, v = .ref a ∧ SqT S.K H a vs ∧ Das S M H vs ds := by
  cases h with
  | tup h l a => exact ⟨_, _, rfl, h, l, a⟩
theorem Da.int_eq {i : Int} (h : Da S M H v (.int i)) : v = .int i := by cases h; rfl
theorem Da.str_eq {i : Str} (h : Da S M H v (.str i)) : v = .str i := by cases h; rfl
theorem Da.bl_eq {i : Bool} (h : Da S M H v (.bl i)) : v = .bl i := by cases h; rfl
theorem Da.non_eq (h : Da S M H v .non) : v = .non := by cases h; rfl
theorem Da.ty_eq {n : String} (h : Da S M H v (.ty n)) : v = .ty n := by cases h; rfl
theorem Da.same (s : Same H H') (h : Da S M H v d) : Da S M H' v d := by
  induction h with
  | non => exact .non
  | bl b => exact .bl b
  | int i => exact .int i
  | str x => exact .str x
  | lst h len all ih => exact .lst (s _ _ h) len ih
  | tup h len all ih => exact .tup (seqT_same s h) len ih
  | dct h ne => exact .dct (s _ _ h) ne
  | ty n => exact .ty n
  | tnk h => exact .tnk h
  | obj h => exact .obj (S.obm s h)
  | fn h r => exact .fn h r
theorem Das.same (s : Same H H') (h : Das S M H vs ds) : Das S M H' vs ds := ⟨h.len, fun i v d h1 h2 => (h.all i v d h1 h2).same s⟩
theorem Das.ints (ns : List Int) : Das S M H (ns.map V.int) (ns.map Dt.int) :=
  ⟨by simp, fun i v d h1 h2 => by
    obtain ⟨n, e1, rfl⟩ := some_map h1
    obtain ⟨m, e2, rfl⟩ := some_map h2
    rw [e1] at e2
    cases e2
    exact .int _⟩
theorem Das.of_ints {ns : List Int} (h : Das S M H vs (ns.map Dt.int)) : vs = ns.map V.int := by
  induction ns generalizing vs with
  | nil => rw [h.of_nil]; rfl
  | cons n ns ih =>
    obtain ⟨v, ws, rfl, q, r⟩ := h.of_cons
    rw [q.int_eq, ih r]
    rfl
theorem Das.of_strs {ns : List Str} (h : Das S M H vs (ns.map Dt.str)) : vs = ns.map V.str := by
  induction ns generalizing vs with
  | nil => rw [h.of_nil]; rfl
  | cons n ns ih =>
    obtain ⟨v, ws, rfl, q, r⟩ := h.of_cons
    rw [q.str_eq, ih r]
    rfl
theorem Das.strs (ns : List Str) : Das S M H (ns.map V.str) (ns.map Dt.str) :=
  ⟨by simp, fun i v d h1 h2 => by
    obtain ⟨n, e1, rfl⟩ := some_map h1
    obtain ⟨m, e2, rfl⟩ := some_map h2
    rw [e1] at e2
    cases e2
    exact .str _⟩
theorem Das.of_bls {ns : List Bool} (h : Das S M H vs (ns.map Dt.bl)) : vs = ns.map V.bl := by
  induction ns generalizing vs with
  | nil => rw [h.of_nil]; rfl
  | cons n ns ih =>
    obtain ⟨v, ws, rfl, q, r⟩ := h.of_cons
    rw [q.bl_eq, ih r]
    rfl
end

/-! ### steps -/
/-- all that is neither a changing thing nor a list of the frame's own stands as before; lists of its own come new -/
structure Stp (M : Mu) (L : List Addr) (H : Hp) (L' : List Addr) (H' : Hp) : Prop where
  keep : ∀ b o, b ∉ M.map Prod.fst → b ∉ L → H b = some o → H' b = some o
  new : ∀ p ∈ L', p ∈ L ∨ H p = none
section
variable {S : Su} {M : Mu} {L L1 L2 A B : List Addr} {H H1 H2 : Hp} {p : Addr} {v : V} {d : Dt} {vs : List V} {ds : List Dt}
theorem Stp.refl : Stp M L H L H := ⟨fun _ _ _ _ h => h, fun _ h => .inl h⟩
theorem MOk.held (m : MOk S M H) {b : Addr} (h : b ∈ M.map Prod.fst) : H b ≠ none := by
  obtain ⟨e, he, rfl⟩ := List.mem_map.mp h
  obtain ⟨o, q, _⟩ := m e he
  rw [q]
  exact fun z => by cases z
theorem Stp.trans (a : Stp M L H L1 H1) (m : MOk S M H1) (b : Stp M L1 H1 L2 H2) : Stp M L H L2 H2 :=
  ⟨fun c o n n2 h => b.keep c o n (fun z => (a.new c z).elim n2 fun w => by rw [w] at h; cases h) (a.keep c o n n2 h), fun p hp => by
    rcases b.new p hp with z | z
    · exact a.new p z
    · by_cases h : p ∈ L
      · exact .inl h
      · refine .inr ?_
        cases q : H p with
        | none => rfl
        | some o =>
          by_cases t : p ∈ M.map Prod.fst
          · exact absurd z (m.held t)
          · rw [a.keep p o t h q] at z; cases z⟩
theorem Stp.of (s : Same H H1) : Stp M L H L H1 := ⟨fun b o _ _ h => s b o h, fun _ h => .inl h⟩
theorem MOk.same (s : Same H H1) (m : MOk S M H) : MOk S M H1 := fun e he => by
  obtain ⟨o, q, r⟩ := m e he
  exact ⟨o, s _ _ q, r⟩
theorem Stp.wide (s : Stp M [] H [] H1) : Stp M L H L H1 := ⟨fun b o n _ h => s.keep b o n (by simp) h, fun _ h => .inl h⟩
theorem Stp.hv (s : Stp M L H L1 H1) (mA : ∀ e ∈ M, e.1 ∈ A) : Same (hv (L ++ A) H) (hv (L1 ++ A) H1) := fun b o h => by
  have hb : b ∉ L ++ A := fun z => by rw [hv_in z] at h; cases h
  rw [hv_out hb] at h
  have h1 : b ∉ L := fun z => hb (List.mem_append_left _ z)
  have h2 : b ∉ A := fun z => hb (List.mem_append_right _ z)
  have h3 : b ∉ M.map Prod.fst := fun z => by
    obtain ⟨e, he, rfl⟩ := List.mem_map.mp z
    exact h2 (mA e he)
  have h4 : b ∉ L1 ++ A := fun z => by
    rcases List.mem_append.mp z with z | z
    · rcases s.new b z with w | w
      · exact h1 w
      · rw [w] at h; cases h
    · exact h2 z
  rw [hv_out h4]
  exact s.keep b o h3 h1 h
theorem hv_sub {A B : List Addr} (h : ∀ x ∈ A, x ∈ B) : Same (hv B H) (hv A H) := fun b o q => by
  have hb : b ∉ B := fun z => by rw [hv_in z] at q; cases q
  rw [hv_out hb] at q
  rw [hv_out fun z => hb (h b z)]
  exact q
/-- one more address hidden, at which nothing stood -/
theorem hv_more {A : List Addr} (n : H p = none) : Same (hv A H) (hv (p :: A) H) := fun b o q => by
  have hb : b ∉ A := fun z => by rw [hv_in z] at q; cases q
  rw [hv_out hb] at q
  rw [hv_out fun z => by
    rcases List.mem_cons.mp z with w | w
    · rw [w, n] at q; cases q
    · exact hb w]
  exact q
end

/-! ### a frame's slots -/
/-- what is known of a slot: a value, or a list of the frame's own that it may change -/
inductive Sl where
  | val (d : Dt)
  | own (l : List Dt)
abbrev De := List (Option Sl)
structure Fr (S : Su) (M : Mu) (A L : List Addr) (σ : L2.St) (δ : De) (H : Hp) : Prop where
  len : σ.length = δ.length
  hd : Hd (L ++ A) H
  dis : ∀ p ∈ L, p ∉ A
  mA : ∀ e ∈ M, e.1 ∈ A
  mu : MOk S M H
  val : ∀ (i : Nat) (d : Dt), δ[i]? = some (some (.val d)) → ∃ v, σ[i]? = some (some v) ∧ Da S M (hv (L ++ A) H) v d
  own : ∀ (i : Nat) (ds : List Dt), δ[i]? = some (some (.own ds)) → ∃ (p : Addr) (vs : List V), σ[i]? = some (some (.ref p)) ∧ p ∈ L ∧ H p = some (.lst vs) ∧ Das S M (hv (L ++ A) H) vs ds
  uni : ∀ (i j : Nat) (ds es : List Dt) (p : Addr), δ[i]? = some (some (.own ds)) → δ[j]? = some (some (.own es)) → σ[i]? = some (some (.ref p)) → σ[j]? = some (some (.ref p)) → i = j
section
variable {S : Su} {M : Mu} {L L' A : List Addr} {σ : L2.St} {δ : De} {H H' : Hp} {p : Addr} {v : V} {d : Dt} {vs : List V} {ds : List Dt}
theorem Fr.notM (f : Fr S M A L σ δ H) (h : p ∈ L) : p ∉ M.map Prod.fst := fun z => by
  obtain ⟨e, he, rfl⟩ := List.mem_map.mp z
  exact f.dis _ h (f.mA e he)
theorem held_stp {B : List Addr} (s : Stp M [] H [] H') (m : MOk S M H') (h : Hd B H) : Hd B H' := fun a ha z => by
  cases q : H a with
  | none => exact h a ha q
  | some o =>
    by_cases t : a ∈ M.map Prod.fst
    · exact m.held t z
    · rw [s.keep a o t (by simp) q] at z; cases z
theorem Fr.step (f : Fr S M A L σ δ H) (s : Stp M [] H [] H') (m : MOk S M H') : Fr S M A L σ δ H' where
  len := f.len
  hd := held_stp s m f.hd
  dis := f.dis
  mA := f.mA
  mu := m
  val := fun i d e => by
    obtain ⟨v, e1, h⟩ := f.val i d e
    exact ⟨v, e1, h.same ((Stp.wide s).hv f.mA)⟩
  own := fun i ds e => by
    obtain ⟨p, vs, e1, hp, e2, h⟩ := f.own i ds e
    exact ⟨p, vs, e1, hp, s.keep p _ (f.notM hp) (by simp) e2, h.same ((Stp.wide s).hv f.mA)⟩
  uni := f.uni
/-- a value is put into a slot -/
theorem Fr.set (f : Fr S M A L σ δ H) (i : Nat) (h : Da S M (hv (L ++ A) H) v d) : Fr S M A L (σ.set i (some v)) (δ.set i (some (.val d))) H where
  len := by rw [List.length_set, List.length_set, f.len]
  hd := f.hd
  dis := f.dis
  mA := f.mA
  mu := f.mu
  val := fun j e hj => by
    by_cases z : i = j
    · subst z
      have l : i < δ.length := by
        have := (List.getElem?_eq_some_iff.mp hj).1
        rwa [List.length_set] at this
      rw [List.getElem?_set_self l] at hj
      cases hj
      exact ⟨v, List.getElem?_set_self (by rw [f.len]; exact l), h⟩
    · rw [List.getElem?_set_ne z] at hj
      obtain ⟨u, e1, q⟩ := f.val j e hj
      exact ⟨u, by rw [List.getElem?_set_ne z]; exact e1, q⟩
  own := fun j ds hj => by
    by_cases z : i = j
    · subst z
      have l : i < δ.length := by
        have := (List.getElem?_eq_some_iff.mp hj).1
        rwa [List.length_set] at this
      rw [List.getElem?_set_self l] at hj
      cases hj
    · rw [List.getElem?_set_ne z] at hj
      obtain ⟨p, vs, e1, q⟩ := f.own j ds hj
      exact ⟨p, vs, by rw [List.getElem?_set_ne z]; exact e1, q⟩
  uni := fun j k ds es p h1 h2 h3 h4 => by
    have nj : i ≠ j := fun z => by
      subst z
      have l := (List.getElem?_eq_some_iff.mp h1).1
      rw [List.length_set] at l
      rw [List.getElem?_set_self l] at h1
      cases h1
    have nk : i ≠ k := fun z => by
      subst z
      have l := (List.getElem?_eq_some_iff.mp h2).1
      rw [List.length_set] at l
      rw [List.getElem?_set_self l] at h2
      cases h2
    rw [List.getElem?_set_ne nj] at h1 h3
    rw [List.getElem?_set_ne nk] at h2 h4
    exact f.uni j k ds es p h1 h2 h3 h4
theorem stp_hv {B : List Addr} (s : Stp M [] H [] H') (mB : ∀ e ∈ M, e.1 ∈ B) : Same (hv B H) (hv B H') := fun b o h => by
  have hb : b ∉ B := fun z => by rw [hv_in z] at h; cases h
  rw [hv_out hb] at h ⊢
  exact s.keep b o (fun z => by
    obtain ⟨e, he, rfl⟩ := List.mem_map.mp z
    exact hb (mB e he)) (by simp) h
/-- one more address hidden, at which nothing stood -/
theorem hide_stp {B : List Addr} (n : H p = none) (s : Stp M [] H [] H') (mB : ∀ e ∈ M, e.1 ∈ B) : Same (hv B H) (hv (p :: B) H') :=
  (hv_more n).trans (stp_hv s fun e he => List.mem_cons_of_mem _ (mB e he))
/-- a new list is put into a slot, as the frame's own -/
theorem Fr.setOwn (f : Fr S M A L σ δ H) (i : Nat) (n : H p = none) (s : Stp M [] H [] H') (m : MOk S M H') (e : H' p = some (.lst vs))
    (h : Das S M (hv (p :: (L ++ A)) H') vs ds) : Fr S M A (p :: L) (σ.set i (some (.ref p))) (δ.set i (some (Sl.own ds))) H' := by
  have mB : ∀ e ∈ M, e.1 ∈ L ++ A := fun e he => List.mem_append_right _ (f.mA e he)
  have hs : Same (hv (L ++ A) H) (hv (p :: (L ++ A)) H') := hide_stp n s mB
  have pB : p ∉ L ++ A := fun z => f.hd p z n
  exact {
    len := by rw [List.length_set, List.length_set, f.len]
    hd := fun a ha => by
      rcases List.mem_cons.mp ha with z | z
      · rw [z, e]; exact fun w => by cases w
      · exact held_stp s m f.hd a z
    dis := fun q hq => by
      rcases List.mem_cons.mp hq with z | z
      · rw [z]; exact fun w => pB (List.mem_append_right _ w)
      · exact f.dis q z
    mA := f.mA
    mu := m
    val := fun j d hj => by
      have z : i ≠ j := fun z => by
        subst z
        have l := (List.getElem?_eq_some_iff.mp hj).1
        rw [List.length_set] at l
        rw [List.getElem?_set_self l] at hj
        cases hj
      rw [List.getElem?_set_ne z] at hj
      obtain ⟨u, e1, q⟩ := f.val j d hj
      exact ⟨u, by rw [List.getElem?_set_ne z]; exact e1, q.same hs⟩
    own := fun j es hj => by
      by_cases z : i = j
      · subst z
        have l : i < δ.length := by
          have := (List.getElem?_eq_some_iff.mp hj).1
          rwa [List.length_set] at this
        rw [List.getElem?_set_self l] at hj
        cases hj
        exact ⟨p, vs, List.getElem?_set_self (by rw [f.len]; exact l), List.mem_cons_self, e, h⟩
      · rw [List.getElem?_set_ne z] at hj
        obtain ⟨q, ws, e1, hq, e2, h2⟩ := f.own j es hj
        exact ⟨q, ws, by rw [List.getElem?_set_ne z]; exact e1, List.mem_cons_of_mem _ hq, s.keep q _ (f.notM hq) (by simp) e2, h2.same hs⟩
    uni := fun j k ds' es q h1 h2 h3 h4 => by
      by_cases zj : i = j
      · by_cases zk : i = k
        · rw [← zj, ← zk]
        · exfalso
          subst zj
          rw [List.getElem?_set_ne zk] at h2 h4
          have l : i < σ.length := by
            have := (List.getElem?_eq_some_iff.mp h3).1
            rwa [List.length_set] at this
          rw [List.getElem?_set_self l] at h3
          cases h3
          obtain ⟨q', ws, e1, hq, _⟩ := f.own k es h2
          rw [h4] at e1
          cases e1
          exact pB (List.mem_append_left _ hq)
      · by_cases zk : i = k
        · exfalso
          subst zk
          rw [List.getElem?_set_ne zj] at h1 h3
          have l : i < σ.length := by
            have := (List.getElem?_eq_some_iff.mp h4).1
            rwa [List.length_set] at this
          rw [List.getElem?_set_self l] at h4
          cases h4
          obtain ⟨q', ws, e1, hq, _⟩ := f.own j ds' h1
          rw [h3] at e1
          cases e1
          exact pB (List.mem_append_left _ hq)
        · rw [List.getElem?_set_ne zj] at h1 h3
          rw [List.getElem?_set_ne zk] at h2 h4
          exact f.uni j k ds' es q h1 h2 h3 h4 }
/-- a list of the frame's own, changed -/
theorem Fr.chg (f : Fr S M A L σ δ H) (i : Nat) {ws : List V} {es : List Dt} (e : δ[i]? = some (some (Sl.own ds))) (ep : σ[i]? = some (some (.ref p))) (h : Das S M (hv (L ++ A) H) ws es) :
    Fr S M A L σ (δ.set i (some (Sl.own es))) (upd H p (.lst ws)) ∧ Stp M L H L (upd H p (.lst ws)) := by
  obtain ⟨p', vs, e1, pL, e2, h2⟩ := f.own i ds e
  rw [ep] at e1
  cases e1
  have il : i < δ.length := (List.getElem?_eq_some_iff.mp e).1
  have pB : p ∈ L ++ A := List.mem_append_left _ pL
  have hs : Same (hv (L ++ A) H) (hv (L ++ A) (upd H p (.lst ws))) := fun b o q => by
    have hb : b ∉ L ++ A := fun z => by rw [hv_in z] at q; cases q
    rw [hv_out hb] at q ⊢
    rw [upd_ne fun z => hb (by rw [z]; exact pB)]
    exact q
  refine ⟨?_, ⟨fun b o _ n q => by rw [upd_ne fun z => n (by rw [z]; exact pL)]; exact q, fun _ z => .inl z⟩⟩
  exact {
    len := by rw [List.length_set, f.len]
    hd := fun a ha z => by
      by_cases w : a = p
      · rw [w, upd_same] at z; cases z
      · rw [upd_ne w] at z; exact f.hd a ha z
    dis := f.dis
    mA := f.mA
    mu := fun x hx => by
      obtain ⟨o, q, r⟩ := f.mu x hx
      refine ⟨o, ?_, r⟩
      rw [upd_ne fun z => f.dis p pL (by rw [← z]; exact f.mA x hx)]
      exact q
    val := fun j d hj => by
      have z : i ≠ j := fun z => by
        subst z
        rw [List.getElem?_set_self il] at hj
        cases hj
      rw [List.getElem?_set_ne z] at hj
      obtain ⟨u, e1, q⟩ := f.val j d hj
      exact ⟨u, e1, q.same hs⟩
    own := fun j es' hj => by
      by_cases z : i = j
      · subst z
        rw [List.getElem?_set_self il] at hj
        cases hj
        exact ⟨p, ws, ep, pL, upd_same, h.same hs⟩
      · rw [List.getElem?_set_ne z] at hj
        obtain ⟨q, us, e1, hq, e3, h3⟩ := f.own j es' hj
        refine ⟨q, us, e1, hq, ?_, h3.same hs⟩
        rw [upd_ne fun w => z (f.uni i j ds es' p e hj ep (by rw [← w]; exact e1))]
        exact e3
    uni := fun j k ds' es' q h1 h2 h3 h4 => by
      have key : ∀ (j : Nat) (xs : List Dt), (δ.set i (some (Sl.own es)))[j]? = some (some (Sl.own xs)) → ∃ ys, δ[j]? = some (some (Sl.own ys)) := fun j xs hj => by
        by_cases z : i = j
        · exact ⟨ds, by rw [← z]; exact e⟩
        · rw [List.getElem?_set_ne z] at hj
          exact ⟨xs, hj⟩
      obtain ⟨x1, y1⟩ := key j ds' h1
      obtain ⟨x2, y2⟩ := key k es' h2
      exact f.uni j k x1 x2 q y1 y2 h3 h4 }
/-- a list of the frame's own is changed no more -/
theorem Fr.freeze (f : Fr S M A L σ δ H) (i : Nat) (e : δ[i]? = some (some (Sl.own ds))) : ∃ L', Fr S M A L' σ (δ.set i (some (.val (.lst ds)))) H ∧ Stp M L H L' H ∧ (∀ p ∈ L', p ∈ L) := by
  obtain ⟨p, vs, ep, pL, e2, h2⟩ := f.own i ds e
  have il : i < δ.length := (List.getElem?_eq_some_iff.mp e).1
  have sub : ∀ q ∈ L.filter (fun x => decide (x ≠ p)), q ∈ L := fun q hq => (List.mem_filter.mp hq).1
  have subB : ∀ q ∈ L.filter (fun x => decide (x ≠ p)) ++ A, q ∈ L ++ A := fun q hq => by
    rcases List.mem_append.mp hq with z | z
    · exact List.mem_append_left _ (sub q z)
    · exact List.mem_append_right _ z
  have hs : Same (hv (L ++ A) H) (hv (L.filter (fun x => decide (x ≠ p)) ++ A) H) := hv_sub subB
  have pB : p ∉ L.filter (fun x => decide (x ≠ p)) ++ A := fun z => by
    rcases List.mem_append.mp z with z | z
    · have := (List.mem_filter.mp z).2
      simp at this
    · exact f.dis p pL z
  refine ⟨L.filter (fun x => decide (x ≠ p)), ?_, ⟨fun b o _ _ q => q, fun q hq => .inl (sub q hq)⟩, sub⟩
  exact {
    len := by rw [List.length_set, f.len]
    hd := fun a ha => f.hd a (subB a ha)
    dis := fun q hq => f.dis q (sub q hq)
    mA := f.mA
    mu := f.mu
    val := fun j d hj => by
      by_cases z : i = j
      · subst z
        rw [List.getElem?_set_self il] at hj
        cases hj
        exact ⟨_, ep, .lst' (by rw [hv_out pB]; exact e2) (h2.same hs)⟩
      · rw [List.getElem?_set_ne z] at hj
        obtain ⟨u, e1, q⟩ := f.val j d hj
        exact ⟨u, e1, q.same hs⟩
    own := fun j es' hj => by
      have z : i ≠ j := fun z => by
        subst z
        rw [List.getElem?_set_self il] at hj
        cases hj
      rw [List.getElem?_set_ne z] at hj
      obtain ⟨q, us, e1, hq, e3, h3⟩ := f.own j es' hj
      refine ⟨q, us, e1, List.mem_filter.mpr ⟨hq, ?_⟩, e3, h3.same hs⟩
      refine decide_eq_true fun w => z ?_
      exact f.uni i j ds es' p e hj ep (by rw [← w]; exact e1)
    uni := fun j k ds' es' q h1 h2 h3 h4 => by
      have key : ∀ (j : Nat) (xs : List Dt), (δ.set i (some (.val (.lst ds))))[j]? = some (some (Sl.own xs)) → δ[j]? = some (some (Sl.own xs)) := fun j xs hj => by
        by_cases z : i = j
        · subst z
          rw [List.getElem?_set_self il] at hj
          cases hj
        · rwa [List.getElem?_set_ne z] at hj
      exact f.uni j k ds' es' q (key j ds' h1) (key k es' h2) h3 h4 }
end
end LW

set_option Elab.async false
set_option linter.all false
set_option maxRecDepth 100000
set_option maxHeartbeats 4000100
/-! what an expression computes, told of plain data -/
namespace LW
open L2 PySem.Spec PyProof.Rows PySem

theorem peTo {X : Cx} {e : Expr} {t t' : TE} (h : PE X e t) (m : ∀ σ H Q, t' σ H Q → t σ H Q) : PE X e t' := ⟨fun pins s σ H Q I q => h.run pins s σ H Q I (m σ H Q q)⟩
theorem ptTo {X : Cx} {e : Expr} {t t' : TT} (h : PT X e t) (m : ∀ σ H Q, t' σ H Q → t σ H Q) : PT X e t' := ⟨fun pins s σ H Q I q => h.run pins s σ H Q I (m σ H Q q)⟩
theorem pwTo {X : Cx} {e : Expr} {t t' : TT} (h : PW X e t) (m : ∀ σ H Q, t' σ H Q → t σ H Q) : PW X e t' := ⟨fun wh pins s σ H Q I q => h.run wh pins s σ H Q I (m σ H Q q)⟩
theorem paTo {X : Cx} {e : List Expr} {t t' : TA} (h : PA X e t) (m : ∀ σ H Q, t' σ H Q → t σ H Q) : PA X e t' := ⟨fun pos pins s σ H Q I q => h.run pos pins s σ H Q I (m σ H Q q)⟩
theorem psTo {X : Cx} {e : Stmt} {t t' : TS} (h : PS X e t) (m : ∀ D σ H, t' D σ H → t D σ H) : PS X e t' := ⟨fun pins s σ H D I q => h.run pins s σ H D I (m D σ H q)⟩
theorem pssTo {X : Cx} {e : List Stmt} {t t' : TS} (h : PSs X e t) (m : ∀ D σ H, t' D σ H → t D σ H) : PSs X e t' := ⟨fun pins s σ H D I q => h.run pins s σ H D I (m D σ H q)⟩
theorem pgTo {X : Cx} {e : Expr} {t t' : TG} (h : PG X e t) (m : ∀ v σ H Q, t' v σ H Q → t v σ H Q) : PG X e t' := ⟨fun pins s σ H v u Q I r q => h.run pins s σ H v u Q I r (m v σ H Q q)⟩

/-- an error: its class's name, its one field -/
structure Er where
  cls : Str
  fld : Option (Str × Dt)
def XOk (S : Su) (M : Mu) (A : List Addr) (x : Er) (cls : Value) (dd : Option Addr) (H : Hp) : Prop :=
  S.mg x.cls = some cls ∧ match x.fld with
    | none => True
    | some (n, d) => ∃ a v, dd = some a ∧ H a = some (.xd [(n, v)]) ∧ Da S M (hv A H) v d
abbrev WE := De → (Dt → Prop) → (Er → Prop) → Prop
abbrev WT := De → (Bool → Prop) → (Er → Prop) → Prop
abbrev WA := De → (List Dt → Prop) → (Er → Prop) → Prop
/-- a value that may be a list of the frame's own -/
def Dw (S : Su) (M : Mu) (L A : List Addr) (H : Hp) (v : V) (d : Dt) : Prop := Da S M (hv (L ++ A) H) v d ∨
  ∃ (p : Addr) (vs : List V) (ds : List Dt), v = .ref p ∧ d = .lst ds ∧ p ∈ L ∧ H p = some (.lst vs) ∧ Das S M (hv (L ++ A) H) vs ds
structure Dws (S : Su) (M : Mu) (L A : List Addr) (H : Hp) (xs : List V) (ds : List Dt) : Prop where
  len : xs.length = ds.length
  all : ∀ (i : Nat) (v : V) (d : Dt), xs[i]? = some v → ds[i]? = some d → Dw S M L A H v d
section
variable {S : Su} {M : Mu} {L A : List Addr} {σ : L2.St} {δ : De} {H H' : Hp} {v : V} {d : Dt} {vs : List V} {ds : List Dt}
theorem Dw.step (s : Stp M [] H [] H') (mA : ∀ e ∈ M, e.1 ∈ A) (dis : ∀ p ∈ L, p ∉ A) (h : Dw S M L A H v d) : Dw S M L A H' v d := by
  rcases h with h | ⟨p, vs, ds, rfl, rfl, pL, e, h⟩
  · exact .inl (h.same ((Stp.wide s).hv mA))
  · refine .inr ⟨p, vs, ds, rfl, rfl, pL, s.keep p _ (fun z => ?_) (by simp) e, h.same ((Stp.wide s).hv mA)⟩
    obtain ⟨x, hx, rfl⟩ := List.mem_map.mp z
    exact dis _ pL (mA x hx)
theorem Dws.nil : Dws S M L A H [] [] := ⟨rfl, fun i v d h => by simp at h⟩
theorem Dws.cons (h : Dw S M L A H v d) (r : Dws S M L A H vs ds) : Dws S M L A H (v :: vs) (d :: ds) :=
  ⟨by rw [List.length_cons, List.length_cons, r.len], fun i w e h1 h2 => by
    cases i with
    | zero => cases h1; cases h2; exact h
    | succ i => exact r.all i w e h1 h2⟩
theorem Dws.of_cons (h : Dws S M L A H vs (d :: ds)) : ∃ v ws, vs = v :: ws ∧ Dw S M L A H v d ∧ Dws S M L A H ws ds := by
  obtain ⟨l, q⟩ := h
  cases vs with
  | nil => simp at l
  | cons v ws => exact ⟨v, ws, rfl, q 0 v d rfl rfl, by simpa using l, fun i w e h1 h2 => q (i + 1) w e h1 h2⟩
theorem Dws.of_nil (h : Dws S M L A H vs []) : vs = [] := List.length_eq_zero_iff.mp h.len
theorem Dws.one (h : Dws S M L A H vs [d]) : ∃ v, vs = [v] ∧ Dw S M L A H v d := by
  obtain ⟨v, ws, rfl, q, r⟩ := h.of_cons
  exact ⟨v, by rw [r.of_nil], q⟩
theorem Dws.two {e : Dt} (h : Dws S M L A H vs [d, e]) : ∃ v w, vs = [v, w] ∧ Dw S M L A H v d ∧ Dw S M L A H w e := by
  obtain ⟨v, ws, rfl, q, r⟩ := h.of_cons
  obtain ⟨w, rfl, q2⟩ := r.one
  exact ⟨v, w, rfl, q, q2⟩
theorem Dw.int_eq {i : Int} (h : Dw S M L A H v (.int i)) : v = .int i := by
  rcases h with h | ⟨p, vs, ds, _, z, _⟩
  · exact h.int_eq
  · cases z
theorem Dw.str_eq {i : Str} (h : Dw S M L A H v (.str i)) : v = .str i := by
  rcases h with h | ⟨p, vs, ds, _, z, _⟩
  · exact h.str_eq
  · cases z
theorem Dw.bl_eq {i : Bool} (h : Dw S M L A H v (.bl i)) : v = .bl i := by
  rcases h with h | ⟨p, vs, ds, _, z, _⟩
  · exact h.bl_eq
  · cases z
theorem Dw.non_eq (h : Dw S M L A H v .non) : v = .non := by
  rcases h with h | ⟨p, vs, ds, _, z, _⟩
  · exact h.non_eq
  · cases z
theorem Dw.ty_eq {n : String} (h : Dw S M L A H v (.ty n)) : v = .ty n := by
  rcases h with h | ⟨p, vs, ds, _, z, _⟩
  · exact h.ty_eq
  · cases z
theorem Dw.strong (h : Dw S M L A H v d) (n : ∀ l, d ≠ .lst l) : Da S M (hv (L ++ A) H) v d := by
  rcases h with h | ⟨p, vs, ds, _, z, _⟩
  · exact h
  · exact absurd z (n ds)
theorem Dw.list (h : Dw S M L A H v (.lst ds)) : ∃ a vs, v = .ref a ∧ H a = some (.lst vs) ∧ Das S M (hv (L ++ A) H) vs ds := by
  rcases h with h | ⟨p, vs, es, rfl, z, _, e, q⟩
  · obtain ⟨a, vs, rfl, sq, all⟩ := h.list
    exact ⟨a, vs, rfl, hv_le _ _ sq, all⟩
  · cases z
    exact ⟨p, vs, rfl, e, q⟩
theorem Dw.tuple (h : Dw S M L A H v (.tup ds)) : ∃ a vs, v = .ref a ∧ SqT S.K H a vs ∧ Das S M (hv (L ++ A) H) vs ds := by
  obtain ⟨a, vs, rfl, sq, all⟩ := (h.strong (fun l z => by cases z)).tuple
  exact ⟨a, vs, rfl, sqT_full sq, all⟩
/-- seen from outside the frame -/
theorem Dw.out (dis : ∀ p ∈ L, p ∉ A) (h : Dw S M L A H v d) : Da S M (hv A H) v d := by
  have sub : Same (hv (L ++ A) H) (hv A H) := hv_sub fun x hx => List.mem_append_right _ hx
  rcases h with h | ⟨p, vs, es, rfl, rfl, pL, e, q⟩
  · exact h.same sub
  · exact .lst' (by rw [hv_out (dis p pL)]; exact e) (q.same sub)
end
/-- what is told behind an expression -/
def Aft (S : Su) (M : Mu) (L A : List Addr) (H : Hp) (k : Dt → Prop) (Q : VK) : Prop := ∀ v d H', Stp M [] H [] H' → MOk S M H' → Da S M (hv (L ++ A) H') v d → k d → Q v H'
def AftW (S : Su) (M : Mu) (L A : List Addr) (H : Hp) (k : Dt → Prop) (Q : VK) : Prop := ∀ v d H', Stp M [] H [] H' → MOk S M H' → Dw S M L A H' v d → k d → Q v H'
def AftF (S : Su) (M : Mu) (L A : List Addr) (H : Hp) (k : Dt → Prop) (Q : VK) : Prop := ∀ (p : Addr) (vs : List V) (ds : List Dt) (H' : Hp), H p = none → Stp M [] H [] H' → MOk S M H' → H' p = some (.lst vs) → Das S M (hv (p :: (L ++ A)) H') vs ds → k (.lst ds) → Q (.ref p) H'
def AftT (S : Su) (M : Mu) (H : Hp) (k : Bool → Prop) (Q : Bool → Hp → Prop) : Prop := ∀ b H', Stp M [] H [] H' → MOk S M H' → k b → Q b H'
def AftA (S : Su) (M : Mu) (L A : List Addr) (H : Hp) (k : List Dt → Prop) (Q : List V → Hp → Prop) : Prop := ∀ v d H', Stp M [] H [] H' → MOk S M H' → Das S M (hv (L ++ A) H') v d → k d → Q v H'
def AftAW (S : Su) (M : Mu) (L A : List Addr) (H : Hp) (k : List Dt → Prop) (Q : List V → Hp → Prop) : Prop := ∀ v d H', Stp M [] H [] H' → MOk S M H' → Dws S M L A H' v d → k d → Q v H'
def AftX (S : Su) (M : Mu) (A : List Addr) (H : Hp) (e : Er → Prop) (E : XK) : Prop := ∀ x cls dd H', Stp M [] H [] H' → MOk S M H' → XOk S M A x cls dd H' → e x → E cls dd H'
def tP (S : Su) (E : XK) (w : WE) : TE := fun σ H Q => ∃ M A L δ k e, Fr S M A L σ δ H ∧ w δ k e ∧ Aft S M L A H k Q ∧ AftX S M A H e E
def tPW (S : Su) (E : XK) (w : WE) : TE := fun σ H Q => ∃ M A L δ k e, Fr S M A L σ δ H ∧ w δ k e ∧ AftW S M L A H k Q ∧ AftX S M A H e E
def tPF (S : Su) (E : XK) (w : WE) : TE := fun σ H Q => ∃ M A L δ k e, Fr S M A L σ δ H ∧ w δ k e ∧ AftF S M L A H k Q ∧ AftX S M A H e E
def tPT (S : Su) (E : XK) (w : WT) : TT := fun σ H Q => ∃ M A L δ k e, Fr S M A L σ δ H ∧ w δ k e ∧ AftT S M H k Q ∧ AftX S M A H e E
def tPA (S : Su) (E : XK) (w : WA) : TA := fun σ H Q => ∃ M A L δ k e, Fr S M A L σ δ H ∧ w δ k e ∧ AftA S M L A H k Q ∧ AftX S M A H e E
def tPAW (S : Su) (E : XK) (w : WA) : TA := fun σ H Q => ∃ M A L δ k e, Fr S M A L σ δ H ∧ w δ k e ∧ AftAW S M L A H k Q ∧ AftX S M A H e E
section
variable {S : Su} {M : Mu} {L A : List Addr} {H H' : Hp} {k : Dt → Prop} {kl : List Dt → Prop} {kb : Bool → Prop} {e : Er → Prop} {Q : VK} {Ql : List V → Hp → Prop} {Qb : Bool → Hp → Prop} {E : XK}
theorem Aft.step (s : Stp M [] H [] H') (m : MOk S M H') (h : Aft S M L A H k Q) : Aft S M L A H' k Q := fun v d H2 s2 m2 hv hk => h v d H2 (s.trans m s2) m2 hv hk
theorem AftW.step (s : Stp M [] H [] H') (m : MOk S M H') (h : AftW S M L A H k Q) : AftW S M L A H' k Q := fun v d H2 s2 m2 hv hk => h v d H2 (s.trans m s2) m2 hv hk
theorem AftT.step (s : Stp M [] H [] H') (m : MOk S M H') (h : AftT S M H kb Qb) : AftT S M H' kb Qb := fun v H2 s2 m2 hk => h v H2 (s.trans m s2) m2 hk
theorem AftA.step (s : Stp M [] H [] H') (m : MOk S M H') (h : AftA S M L A H kl Ql) : AftA S M L A H' kl Ql := fun v d H2 s2 m2 hv hk => h v d H2 (s.trans m s2) m2 hv hk
theorem AftAW.step (s : Stp M [] H [] H') (m : MOk S M H') (h : AftAW S M L A H kl Ql) : AftAW S M L A H' kl Ql := fun v d H2 s2 m2 hv hk => h v d H2 (s.trans m s2) m2 hv hk
theorem AftX.step (s : Stp M [] H [] H') (m : MOk S M H') (h : AftX S M A H e E) : AftX S M A H' e E := fun x c dd H2 s2 m2 hx he => h x c dd H2 (s.trans m s2) m2 hx he
theorem stp_free (s : Stp M [] H [] H') (m : MOk S M H') {p : Addr} (n : H' p = none) : H p = none := by
  cases q : H p with
  | none => rfl
  | some o =>
    by_cases t : p ∈ M.map Prod.fst
    · exact absurd n (m.held t)
    · rw [s.keep p o t (by simp) q] at n; cases n
theorem AftF.step (s : Stp M [] H [] H') (m : MOk S M H') (h : AftF S M L A H k Q) : AftF S M L A H' k Q := fun p vs ds H2 n s2 m2 e hv hk => h p vs ds H2 (stp_free s m n) (s.trans m s2) m2 e hv hk
theorem AftW.aft (h : AftW S M L A H k Q) : Aft S M L A H k Q := fun v d H' s m hv hk => h v d H' s m (.inl hv) hk
theorem Aft.fresh (hd : Hd (L ++ A) H) (h : Aft S M L A H k Q) : AftF S M L A H k Q := fun p vs ds H' n s m e hv hk => by
  have pB : p ∉ L ++ A := fun z => hd p z n
  exact h _ _ _ s m (.lst' (by rw [hv_out pB]; exact e) (hv.same (hv_sub fun x hx => List.mem_cons_of_mem _ hx))) hk
end
section
variable {X : Cx} {S : Su} {E : XK} {x : Expr} {w : WE}
theorem xw (h : PE X x (tP S E w)) : PE X x (tPW S E w) := peTo h fun σ H Q ⟨M, A, L, δ, k, e, f, hw, a, ax⟩ => ⟨M, A, L, δ, k, e, f, hw, a.aft, ax⟩
theorem xf (h : PE X x (tPF S E w)) : PE X x (tP S E w) := peTo h fun σ H Q ⟨M, A, L, δ, k, e, f, hw, a, ax⟩ => ⟨M, A, L, δ, k, e, f, hw, a.fresh f.hd, ax⟩
end
/-! ### names and
      constants -/
/-- a slot's value -/
def look : De → Nat → (Dt → Prop) → Prop
  | [], _, _ => False
  | some (.val d) :: _, 0, k => k d
  | some (.own _) :: _, 0, _ => False
  | none :: _, 0, _ => False
  | _ :: r, n + 1, k => look r n k
/-- .. also a list of the frame's own -/
def lookO : De → Nat → (Dt → Prop) → Prop
  | [], _, _ => False
  | some (.val d) :: _, 0, k => k d
  | some (.own l) :: _, 0, k => k (.lst l)
  | none :: _, 0, _ => False
  | _ :: r, n + 1, k => lookO r n k
theorem look_of : ∀ {δ : De} {i : Nat} {k : Dt → Prop}, look δ i k → ∃ d, δ[i]? = some (some (.val d)) ∧ k d
  | [], _, _, h => h.elim
  | some (.val d) :: _, 0, _, h => ⟨d, rfl, h⟩
  | some (.own _) :: _, 0, _, h => h.elim
  | none :: _, 0, _, h => h.elim
  | some (.val d) :: r, n + 1, k, h => by
    obtain ⟨e, h1, h2⟩ := look_of (δ := r) (i := n) (k := k) h
    exact ⟨e, by simpa using h1, h2⟩
  | some (.own d) :: r, n + 1, k, h => by
    obtain ⟨e, h1, h2⟩ := look_of (δ := r) (i := n) (k := k) h
    exact ⟨e, by simpa using h1, h2⟩
  | none :: r, n + 1, k, h => by
    obtain ⟨e, h1, h2⟩ := look_of (δ := r) (i := n) (k := k) h
    exact ⟨e, by simpa using h1, h2⟩
theorem lookO_of : ∀ {δ : De} {i : Nat} {k : Dt → Prop}, lookO δ i k → ∃ d, k d ∧ (δ[i]? = some (some (.val d)) ∨ ∃ l, d = .lst l ∧ δ[i]? = some (some (.own l)))
  | [], _, _, h => h.elim
  | some (.val d) :: _, 0, _, h => ⟨d, h, .inl rfl⟩
  | some (.own l) :: _, 0, _, h => ⟨.lst l, h, .inr ⟨l, rfl, rfl⟩⟩
  | none :: _, 0, _, h => h.elim
  | some (.val d) :: r, n + 1, k, h => by
    obtain ⟨e, h1, h2⟩ := lookO_of (δ := r) (i := n) (k := k) h
    exact ⟨e, h1, by simpa using h2⟩
  | some (.own d) :: r, n + 1, k, h => by
    obtain ⟨e, h1, h2⟩ := lookO_of (δ := r) (i := n) (k := k) h
    exact ⟨e, h1, by simpa using h2⟩
  | none :: r, n + 1, k, h => by
    obtain ⟨e, h1, h2⟩ := lookO_of (δ := r) (i := n) (k := k) h
    exact ⟨e, h1, by simpa using h2⟩
def wV (i : Nat) : WE := fun δ k _ => look δ i k
def wO (i : Nat) : WE := fun δ k _ => lookO δ i k
def wC (d : Dt) : WE := fun _ k _ => k d
section
variable {X : Cx} {S : Su} {E : XK} {x : Expr} {i : Nat}
theorem xV (h : PE X x (tVar i)) : PE X x (tP S E (wV i)) := peTo h fun σ H Q ⟨M, A, L, δ, k, e, f, hw, a, _⟩ => by
  obtain ⟨d, e1, hk⟩ := look_of hw
  obtain ⟨v, e2, q⟩ := f.val i d e1
  exact ⟨v, e2, a v d H .refl f.mu q hk⟩
theorem xO (h : PE X x (tVar i)) : PE X x (tPW S E (wO i)) := peTo h fun σ H Q ⟨M, A, L, δ, k, e, f, hw, a, _⟩ => by
  obtain ⟨d, hk, z⟩ := lookO_of hw
  rcases z with e1 | ⟨l, rfl, e1⟩
  · obtain ⟨v, e2, q⟩ := f.val i d e1
    exact ⟨v, e2, a v d H .refl f.mu (.inl q) hk⟩
  · obtain ⟨p, vs, e2, pL, e3, q⟩ := f.own i l e1
    exact ⟨.ref p, e2, a _ _ H .refl f.mu (.inr ⟨p, vs, l, rfl, rfl, pL, e3, q⟩) hk⟩
theorem xC {v : V} {d : Dt} (h : PE X x (tC v)) (r : ∀ M H, Da S M H v d) : PE X x (tP S E (wC d)) := peTo h fun σ H Q ⟨M, A, L, δ, k, e, f, hw, a, _⟩ => a v d H .refl f.mu (r _ _) hw
theorem xInt {i : Int} (h : PE X x (tC (.int i))) : PE X x (tP S E (wC (.int i))) := xC h fun _ _ => .int _
theorem xStr {i : Str} (h : PE X x (tC (.str i))) : PE X x (tP S E (wC (.str i))) := xC h fun _ _ => .str _
theorem xBl {i : Bool} (h : PE X x (tC (.bl i))) : PE X x (tP S E (wC (.bl i))) := xC h fun _ _ => .bl _
theorem xNon (h : PE X x (tC .non)) : PE X x (tP S E (wC .non)) := xC h fun _ _ => .non
theorem xTy {n : String} (h : PE X x (tC (.ty n))) : PE X x (tP S E (wC (.ty n))) := xC h fun _ _ => .ty _
theorem xFn {n : Str} {v : V} {u : Value} (h : PE X x (tC v)) (hm : S.mg n = some u) (r : RelV v u) : PE X x (tP S E (wC (.fn n))) := xC h fun _ _ => .fn hm r
end

/-! ### operations -/
def OpP (S : Su) (r : R2) (g : Dt → Dt → (Dt → Prop) → Prop) : Prop := ∀ (M : Mu) (L A : List Addr) (H : Hp) (x y : V) (dx dy : Dt) (k : Dt → Prop) (Q : VK), Hd (L ++ A) H → MOk S M H → (∀ p ∈ L, p ∉ A) →
  Dw S M L A H x dx → Dw S M L A H y dy → g dx dy k → Aft S M L A H k Q → r x y H Q
def OpF (S : Su) (r : R2) (g : Dt → Dt → (Dt → Prop) → Prop) : Prop := ∀ (M : Mu) (L A : List Addr) (H : Hp) (x y : V) (dx dy : Dt) (k : Dt → Prop) (Q : VK), Hd (L ++ A) H → MOk S M H → (∀ p ∈ L, p ∉ A) →
  Dw S M L A H x dx → Dw S M L A H y dy → g dx dy k → AftF S M L A H k Q → r x y H Q
def UnP (S : Su) (r : V → Hp → VK → Prop) (g : Dt → (Dt → Prop) → Prop) : Prop := ∀ (M : Mu) (L A : List Addr) (H : Hp) (x : V) (dx : Dt) (k : Dt → Prop) (Q : VK), Hd (L ++ A) H → MOk S M H → (∀ p ∈ L, p ∉ A) →
  Dw S M L A H x dx → g dx k → Aft S M L A H k Q → r x H Q
def CallP (S : Su) (r : List V → Hp → VK → Prop) (g : List Dt → (Dt → Prop) → Prop) : Prop := ∀ (M : Mu) (L A : List Addr) (H : Hp) (xs : List V) (ds : List Dt) (k : Dt → Prop) (Q : VK), Hd (L ++ A) H → MOk S M H → (∀ p ∈ L, p ∉ A) →
  Dws S M L A H xs ds → g ds k → Aft S M L A H k Q → r xs H Q
def CallF (S : Su) (r : List V → Hp → VK → Prop) (g : List Dt → (Dt → Prop) → Prop) : Prop := ∀ (M : Mu) (L A : List Addr) (H : Hp) (xs : List V) (ds : List Dt) (k : Dt → Prop) (Q : VK), Hd (L ++ A) H → MOk S M H → (∀ p ∈ L, p ∉ A) →
  Dws S M L A H xs ds → g ds k → AftF S M L A H k Q → r xs H Q
def MtP (S : Su) (r : V → List V → Hp → VK → Prop) (g : Dt → List Dt → (Dt → Prop) → Prop) : Prop := ∀ (M : Mu) (L A : List Addr) (H : Hp) (x : V) (dx : Dt) (xs : List V) (ds : List Dt) (k : Dt → Prop) (Q : VK), Hd (L ++ A) H → MOk S M H → (∀ p ∈ L, p ∉ A) →
  Dw S M L A H x dx → Dws S M L A H xs ds → g dx ds k → Aft S M L A H k Q → r x xs H Q
def wBin (g : Dt → Dt → (Dt → Prop) → Prop) (wa wb : WE) : WE := fun δ k e => wa δ (fun x => wb δ (fun y => g x y k) e) e
def wUn (g : Dt → (Dt → Prop) → Prop) (wa : WE) : WE := fun δ k e => wa δ (fun x => g x k) e
def wCal (g : List Dt → (Dt → Prop) → Prop) (wa : WA) : WE := fun δ k e => wa δ (fun x => g x k) e
def wMet (g : Dt → List Dt → (Dt → Prop) → Prop) (wo : WE) (wa : WA) : WE := fun δ k e => wo δ (fun x => wa δ (fun y => g x y k) e) e
section
variable {X : Cx} {S : Su} {E : XK} {wa wb : WE} {g : Dt → Dt → (Dt → Prop) → Prop} {r : R2}
theorem binT (ho : OpP S r g) {ta tb : TE} (ha : ∀ σ H Q, tPW S E wa σ H Q → ta σ H Q) (hb : ∀ σ H Q, tPW S E wb σ H Q → tb σ H Q) : ∀ σ H Q, tP S E (wBin g wa wb) σ H Q → tOp r ta tb σ H Q := fun σ H Q ⟨M, A, L, δ, k, e, f, hw, a, ax⟩ =>
  ha _ _ _ ⟨M, A, L, δ, _, e, f, hw, fun x dx H1 s1 m1 hx hk => hb _ _ _ ⟨M, A, L, δ, _, e, f.step s1 m1, hk, fun y dy H2 s2 m2 hy hk2 =>
    ho M L A H2 x y dx dy k Q (held_stp s2 m2 (held_stp s1 m1 f.hd)) m2 f.dis (hx.step s2 f.mA f.dis) hy hk2 (a.step (s1.trans m1 s2) m2), ax.step s1 m1⟩, ax⟩
theorem binF (ho : OpF S r g) {ta tb : TE} (ha : ∀ σ H Q, tPW S E wa σ H Q → ta σ H Q) (hb : ∀ σ H Q, tPW S E wb σ H Q → tb σ H Q) : ∀ σ H Q, tPF S E (wBin g wa wb) σ H Q → tOp r ta tb σ H Q := fun σ H Q ⟨M, A, L, δ, k, e, f, hw, a, ax⟩ =>
  ha _ _ _ ⟨M, A, L, δ, _, e, f, hw, fun x dx H1 s1 m1 hx hk => hb _ _ _ ⟨M, A, L, δ, _, e, f.step s1 m1, hk, fun y dy H2 s2 m2 hy hk2 =>
    ho M L A H2 x y dx dy k Q (held_stp s2 m2 (held_stp s1 m1 f.hd)) m2 f.dis (hx.step s2 f.mA f.dis) hy hk2 (a.step (s1.trans m1 s2) m2), ax.step s1 m1⟩, ax⟩
variable {x y z : Expr} {pos : Pos}
theorem xBin {op : Operator} (ho : OpR X (binaryOp op) r) (hp : OpP S r g) (ha : PE X x (tPW S E wa)) (hb : PE X y (tPW S E wb)) : PE X (.BinOp x op y pos) (tP S E (wBin g wa wb)) :=
  peTo (pe_op ho ha hb) (binT hp (fun _ _ _ q => q) (fun _ _ _ q => q))
theorem xBinF {op : Operator} (ho : OpR X (binaryOp op) r) (hp : OpF S r g) (ha : PE X x (tPW S E wa)) (hb : PE X y (tPW S E wb)) : PE X (.BinOp x op y pos) (tPF S E (wBin g wa wb)) :=
  peTo (pe_op ho ha hb) (binF hp (fun _ _ _ q => q) (fun _ _ _ q => q))
theorem xCmp {op : CmpOp} (ho : OpR X (compareOp op) r) (hp : OpP S r g) (ha : PE X x (tPW S E wa)) (hb : PE X y (tPW S E wb)) (hm : behindInMarks op y = false) : PE X (.Compare x [op] [y] pos) (tP S E (wBin g wa wb)) :=
  peTo (pe_cmpR ho ha hb hm) (binT hp (fun _ _ _ q => q) (fun _ _ _ q => q))
theorem xIx (ho : IxR X r) (hp : OpP S r g) (ha : PE X x (tPW S E wa)) (hb : PE X y (tPW S E wb)) (hs : PlainIx y) : PE X (.Subscript x y pos) (tP S E (wBin g wa wb)) :=
  peTo (pe_ix ho ha hb hs) (binT hp (fun _ _ _ q => q) (fun _ _ _ q => q))
end
/-! ### tests -/
/-- the truth of a bool -/
def wTst (w : WE) : WT := fun δ k e => w δ (fun d => match d with | .bl b => k b | _ => False) e
/-- the truth of any value -/
def truD (d : Dt) (k : Bool → Prop) : Prop := match d with
  | .non => k false
  | .bl b => k b
  | .int i => k (i != 0)
  | .str x => x.length ≤ sizeLine ∧ k ((x.length : Int) != 0)
  | .lst l => k (!l.isEmpty)
  | .tup l => k (!l.isEmpty)
  | .dct => k false
  | _ => False
def wTru (w : WE) : WT := fun δ k e => w δ (fun d => truD d k) e
def wAnd (wa wb : WT) : WT := fun δ k e => wa δ (fun b => match b with | true => wb δ k e | false => k false) e
def wOr (wa wb : WT) : WT := fun δ k e => wa δ (fun b => match b with | true => k true | false => wb δ k e) e
def wNot (wa : WT) : WT := fun δ k e => wa δ (fun b => k (!b)) e
/-- and, or, not as values: all bools -/
def wAndV (wa wb : WE) : WE := fun δ k e => wa δ (fun d => match d with | .bl true => wb δ k e | .bl false => k (.bl false) | _ => False) e
def wOrV (wa wb : WE) : WE := fun δ k e => wa δ (fun d => match d with | .bl true => k (.bl true) | .bl false => wb δ k e | _ => False) e
def wNotV (wa : WE) : WE := fun δ k e => wa δ (fun d => match d with | .bl b => k (.bl (!b)) | _ => False) e
def wIf (wt : WT) (wa wb : WE) : WE := fun δ k e => wt δ (fun b => match b with | true => wa δ k e | false => wb δ k e) e
/-- a op b op' c -/
def wCh (g g' : Dt → Dt → (Dt → Prop) → Prop) (wa wb wc : WE) : WE := fun δ k e => wa δ (fun x => wb δ (fun y => g x y fun z => match z with | .bl true => wc δ (fun u => g' y u k) e | .bl false => k (.bl false) | _ => False) e) e
section
variable {X : Cx} {S : Su} {E : XK} {w wa wb wc : WE} {wt wu : WT} {x y z : Expr} {pos : Pos} {rest : List Expr}
theorem xTst {t : TE} (hp : PT X x (tTest t)) (h : ∀ σ H Q, tP S E w σ H Q → t σ H Q) : PT X x (tPT S E (wTst w)) := ptTo hp fun σ H Q ⟨M, A, L, δ, k, e, f, hw, a, ax⟩ =>
  h _ _ _ ⟨M, A, L, δ, _, e, f, hw, fun v d H1 s1 m1 hv hk => by
    cases d with
    | bl b => exact ⟨b, hv.bl_eq, a _ _ s1 m1 hk⟩
    | _ => exact hk.elim, ax⟩
theorem xTV (h : PE X x (tP S E w)) (he : ∀ whole, isTrue x X.env whole = (do let v ← whole; standAt x.pos; holding [v] (truthy v)) := by intro _; rfl) : PT X x (tPT S E (wTst w)) :=
  xTst (t := tP S E w) (pt_val h he) fun _ _ _ q => q
theorem xTCmp {op : CmpOp} {r : R2} {g : Dt → Dt → (Dt → Prop) → Prop} (ho : OpR X (compareOp op) r) (hp : OpP S r g) (ha : PE X x (tPW S E wa)) (hb : PE X y (tPW S E wb)) (hm : behindInMarks op y = false) : PT X (.Compare x [op] [y] pos) (tPT S E (wTst (wBin g wa wb))) :=
  xTst (pt_cmpR ho ha hb hm) (binT hp (fun _ _ _ q => q) (fun _ _ _ q => q))
theorem xTru (h : PE X x (tPW S E w)) (he : ∀ whole, isTrue x X.env whole = (do let v ← whole; standAt x.pos; holding [v] (truthy v)) := by intro _; rfl) (hK : X.K = S.K := by rfl) : PT X x (tPT S E (wTru w)) := ptTo (pt_truth h he) fun σ H Q ⟨M, A, L, δ, k, e, f, hw, a, ax⟩ =>
  ⟨M, A, L, δ, _, e, f, hw, fun v d H1 s1 m1 hv hk => by
    rw [hK]
    cases d with
    | non => rw [hv.non_eq]; exact ⟨_, rfl, a _ _ s1 m1 hk⟩
    | bl b => rw [hv.bl_eq]; exact ⟨_, rfl, a _ _ s1 m1 hk⟩
    | int i => rw [hv.int_eq]; exact ⟨_, rfl, a _ _ s1 m1 hk⟩
    | str i => rw [hv.str_eq]; exact ⟨_, ⟨hk.1, rfl⟩, a _ _ s1 m1 hk.2⟩
    | lst l =>
      obtain ⟨p, vs, rfl, sq, all⟩ := hv.list
      refine ⟨_, .inl ⟨vs, .inl (.inl sq), rfl⟩, a _ _ s1 m1 ?_⟩
      have : vs.isEmpty = l.isEmpty := by
        cases vs with
        | nil => cases l with | nil => rfl | cons _ _ => exact absurd all.len (by simp)
        | cons _ _ => cases l with | nil => exact absurd all.len (by simp) | cons _ _ => rfl
      rw [this]; exact hk
    | tup l =>
      obtain ⟨p, vs, rfl, sq, all⟩ := hv.tuple
      refine ⟨_, .inr (.inl ⟨vs, sq, rfl⟩), a _ _ s1 m1 ?_⟩
      have : vs.isEmpty = l.isEmpty := by
        cases vs with
        | nil => cases l with | nil => rfl | cons _ _ => exact absurd all.len (by simp)
        | cons _ _ => cases l with | nil => exact absurd all.len (by simp) | cons _ _ => rfl
      rw [this]; exact hk
    | dct =>
      have h2 := hv.strong (fun l z => by cases z)
      cases h2 with
      | dct e ne => exact ⟨_, .inr (.inr ⟨[], hv_le _ _ e, rfl⟩), a _ _ s1 m1 hk⟩
    | ty n => exact hk.elim
    | tnk n => exact hk.elim
    | obj n d => exact hk.elim
    | fn n => exact hk.elim, ax⟩
theorem xWAnd1 (h : PT X x (tPT S E wt)) : PW X (.BoolOp .And [x] pos) (tPT S E wt) := pw_and1 h
theorem xWOr1 (h : PT X x (tPT S E wt)) : PW X (.BoolOp .Or [x] pos) (tPT S E wt) := pw_or1 h
theorem xWAnd (ha : PT X x (tPT S E wt)) (hb : PW X (.BoolOp .And (y :: rest) pos) (tPT S E wu)) : PW X (.BoolOp .And (x :: y :: rest) pos) (tPT S E (wAnd wt wu)) := pwTo (pw_and ha hb) fun σ H Q ⟨M, A, L, δ, k, e, f, hw, a, ax⟩ =>
  ⟨M, A, L, δ, _, e, f, hw, fun b H1 s1 m1 hk => by
    cases b with
    | true => exact ⟨M, A, L, δ, k, e, f.step s1 m1, hk, a.step s1 m1, ax.step s1 m1⟩
    | false => exact a _ _ s1 m1 hk, ax⟩
theorem xWOr (ha : PT X x (tPT S E wt)) (hb : PW X (.BoolOp .Or (y :: rest) pos) (tPT S E wu)) : PW X (.BoolOp .Or (x :: y :: rest) pos) (tPT S E (wOr wt wu)) := pwTo (pw_or ha hb) fun σ H Q ⟨M, A, L, δ, k, e, f, hw, a, ax⟩ =>
  ⟨M, A, L, δ, _, e, f, hw, fun b H1 s1 m1 hk => by
    cases b with
    | false => exact ⟨M, A, L, δ, k, e, f.step s1 m1, hk, a.step s1 m1, ax.step s1 m1⟩
    | true => exact a _ _ s1 m1 hk, ax⟩
theorem xTNot (ha : PT X x (tPT S E wt)) : PT X (.UnaryOp .Not x pos) (tPT S E (wNot wt)) := ptTo (pt_not ha) fun σ H Q ⟨M, A, L, δ, k, e, f, hw, a, ax⟩ =>
  ⟨M, A, L, δ, _, e, f, hw, fun b H1 s1 m1 hk => a _ _ s1 m1 hk, ax⟩
theorem xAnd (ha : PE X x (tP S E wa)) (hb : PE X (.BoolOp .And (y :: rest) pos) (tP S E wb)) : PE X (.BoolOp .And (x :: y :: rest) pos) (tP S E (wAndV wa wb)) := peTo (pe_and ha hb) fun σ H Q ⟨M, A, L, δ, k, e, f, hw, a, ax⟩ =>
  ⟨M, A, L, δ, _, e, f, hw, fun v d H1 s1 m1 hv hk => by
    cases d with
    | bl b =>
      cases b with
      | true => exact ⟨true, hv.bl_eq, (if_pos rfl).mpr ⟨M, A, L, δ, k, e, f.step s1 m1, hk, a.step s1 m1, ax.step s1 m1⟩⟩
      | false => exact ⟨false, hv.bl_eq, (if_neg Bool.false_ne_true).mpr (a _ _ _ s1 m1 (.bl _) hk)⟩
    | _ => exact hk.elim, ax⟩
theorem xOr (ha : PE X x (tP S E wa)) (hb : PE X (.BoolOp .Or (y :: rest) pos) (tP S E wb)) : PE X (.BoolOp .Or (x :: y :: rest) pos) (tP S E (wOrV wa wb)) := peTo (pe_or ha hb) fun σ H Q ⟨M, A, L, δ, k, e, f, hw, a, ax⟩ =>
  ⟨M, A, L, δ, _, e, f, hw, fun v d H1 s1 m1 hv hk => by
    cases d with
    | bl b =>
      cases b with
      | false => exact ⟨false, hv.bl_eq, (if_neg Bool.false_ne_true).mpr ⟨M, A, L, δ, k, e, f.step s1 m1, hk, a.step s1 m1, ax.step s1 m1⟩⟩
      | true => exact ⟨true, hv.bl_eq, (if_pos rfl).mpr (a _ _ _ s1 m1 (.bl _) hk)⟩
    | _ => exact hk.elim, ax⟩
theorem xOne {op : BoolOp} (ha : PE X x (tP S E wa)) : PE X (.BoolOp op [x] pos) (tP S E wa) := pe_one ha
theorem xNot (ha : PE X x (tP S E wa)) : PE X (.UnaryOp .Not x pos) (tP S E (wNotV wa)) := peTo (pe_not ha) fun σ H Q ⟨M, A, L, δ, k, e, f, hw, a, ax⟩ =>
  ⟨M, A, L, δ, _, e, f, hw, fun v d H1 s1 m1 hv hk => by
    cases d with
    | bl b => exact ⟨b, hv.bl_eq, a _ _ _ s1 m1 (.bl _) hk⟩
    | _ => exact hk.elim, ax⟩
theorem xIf (hc : PT X z (tPT S E wt)) (ha : PE X x (tP S E wa)) (hb : PE X y (tP S E wb)) : PE X (.IfExp z x y pos) (tP S E (wIf wt wa wb)) := peTo (pe_ifExp hc ha hb) fun σ H Q ⟨M, A, L, δ, k, e, f, hw, a, ax⟩ =>
  ⟨M, A, L, δ, _, e, f, hw, fun b H1 s1 m1 hk => by
    cases b with
    | true => exact ⟨M, A, L, δ, k, e, f.step s1 m1, hk, a.step s1 m1, ax.step s1 m1⟩
    | false => exact ⟨M, A, L, δ, k, e, f.step s1 m1, hk, a.step s1 m1, ax.step s1 m1⟩, ax⟩
theorem chT {r r' : R2} {g g' : Dt → Dt → (Dt → Prop) → Prop} (hp : OpP S r g) (hp' : OpP S r' g') : ∀ σ H Q, tP S E (wCh g g' wa wb wc) σ H Q → tChain r r' (tPW S E wa) (tPW S E wb) (tPW S E wc) σ H Q := fun σ H Q ⟨M, A, L, δ, k, e, f, hw, a, ax⟩ =>
  ⟨M, A, L, δ, _, e, f, hw, fun x dx H1 s1 m1 hx hk => ⟨M, A, L, δ, _, e, f.step s1 m1, hk, fun y dy H2 s2 m2 hy hk2 =>
    hp M L A H2 x y dx dy _ _ (held_stp s2 m2 (held_stp s1 m1 f.hd)) m2 f.dis (hx.step s2 f.mA f.dis) hy hk2 fun z dz H3 s3 m3 hz hk3 => by
      have s13 := (s1.trans m1 s2).trans m2 s3
      cases dz with
      | bl b =>
        cases b with
        | true => exact ⟨true, hz.bl_eq, (if_pos rfl).mpr ⟨M, A, L, δ, _, e, f.step s13 m3, hk3, fun u du H4 s4 m4 hu hk4 =>
            hp' M L A H4 y u dy du k Q (held_stp (s13.trans m3 s4) m4 f.hd) m4 f.dis ((hy.step s3 f.mA f.dis).step s4 f.mA f.dis) hu hk4 (a.step (s13.trans m3 s4) m4), ax.step s13 m3⟩⟩
        | false => exact ⟨false, hz.bl_eq, (if_neg Bool.false_ne_true).mpr (a _ _ _ s13 m3 (.bl _) hk3)⟩
      | _ => exact hk3.elim, ax.step s1 m1⟩, ax⟩
theorem xCh {op op' : CmpOp} {r r' : R2} {g g' : Dt → Dt → (Dt → Prop) → Prop} (ho : OpR X (compareOp op) r) (ho' : OpR X (compareOp op') r') (hp : OpP S r g) (hp' : OpP S r' g') (ha : PE X x (tPW S E wa)) (hb : PE X y (tPW S E wb)) (hc : PE X z (tPW S E wc))
    (hm : lastMarks [op, op'] [y, z] = false := by with_unfolding_all rfl) : PE X (.Compare x [op, op'] [y, z] pos) (tP S E (wCh g g' wa wb wc)) := peTo (pe_chain ho ho' ha hb hc hm) (chT hp hp')
theorem xTCh {op op' : CmpOp} {r r' : R2} {g g' : Dt → Dt → (Dt → Prop) → Prop} (ho : OpR X (compareOp op) r) (ho' : OpR X (compareOp op') r') (hp : OpP S r g) (hp' : OpP S r' g') (ha : PE X x (tPW S E wa)) (hb : PE X y (tPW S E wb)) (hc : PE X z (tPW S E wc))
    (hm : lastMarks [op, op'] [y, z] = false := by with_unfolding_all rfl) : PT X (.Compare x [op, op'] [y, z] pos) (tPT S E (wTst (wCh g g' wa wb wc))) := xTst (pt_chain ho ho' ha hb hc hm) (chT hp hp')
end
/-! ### arguments, tuples, lists, calls -/
def wNil : WA := fun _ k _ => k []
def wCons (wa : WE) (wr : WA) : WA := fun δ k e => wa δ (fun x => wr δ (fun xs => k (x :: xs)) e) e
def wStar (wa : WE) (wr : WA) : WA := fun δ k e => wa δ (fun x => match x with | .tup l => wr δ (fun xs => k (l ++ xs)) e | .lst l => wr δ (fun xs => k (l ++ xs)) e | _ => False) e
/-- a tuple, a list of these -/
def wTup (wa : WA) : WE := fun δ k e => wa δ (fun xs => xs.length ≤ sizeLine ∧ k (.tup xs)) e
def wLst (wa : WA) : WE := fun δ k e => wa δ (fun xs => xs.length ≤ sizeLine ∧ k (.lst xs)) e
/-- what a def's promise says in plain values -/
abbrev SpF := List Dt → (Dt → Prop) → (Er → Prop) → Prop
def spW (S : Su) (n : Nat) (w : SpF) : Sp := fun vs H Q E => ∃ (M : Mu) (A : List Addr) (ds : List Dt) (k : Dt → Prop) (e : Er → Prop), vs.length = n ∧ Hd A H ∧ (∀ x ∈ M, x.1 ∈ A) ∧ MOk S M H ∧ Das S M (hv A H) vs ds ∧ w ds k e ∧
  (∀ v d H', Stp M [] H [] H' → MOk S M H' → Da S M (hv A H') v d → k d → Q v H') ∧ AftX S M A H e E
def wCall (n : Nat) (f : SpF) (wa : WA) : WE := fun δ k e => wa δ (fun xs => xs.length = n ∧ f xs k e) e
section
variable {X : Cx} {S : Su} {E : XK} {wa wb : WE} {ws : WA} {x y : Expr} {xs : List Expr} {pos : Pos}
theorem xANil : PA X [] (tPA S E wNil) := paTo pa_nil fun σ H Q ⟨M, A, L, δ, k, e, f, hw, a, ax⟩ => a _ _ _ .refl f.mu .nil hw
theorem xACons (ha : PE X x (tP S E wa)) (hr : PA X xs (tPA S E ws)) (hs : starEach (x :: xs) X.env = (false, eval x X.env) :: starEach xs X.env := by rfl) : PA X (x :: xs) (tPA S E (wCons wa ws)) := paTo (pa_cons ha hr hs) fun σ H Q ⟨M, A, L, δ, k, e, f, hw, a, ax⟩ =>
  ⟨M, A, L, δ, _, e, f, hw, fun v d H1 s1 m1 hv hk => ⟨M, A, L, δ, _, e, f.step s1 m1, hk, fun vs ds H2 s2 m2 hvs hk2 =>
    a _ _ _ (s1.trans m1 s2) m2 (.cons (hv.same ((Stp.wide s2).hv f.mA)) hvs) hk2, ax.step s1 m1⟩, ax⟩
theorem xAStar {p : Pos} (ha : PE X x (tPW S E wa)) (hr : PA X xs (tPA S E ws)) (hs : starEach (.Starred x p :: xs) X.env = (true, eval x X.env) :: starEach xs X.env := by rfl) (hK : X.K = S.K := by rfl) : PA X (.Starred x p :: xs) (tPA S E (wStar wa ws)) := paTo (StX.pa_star ha hr hs) fun σ H Q ⟨M, A, L, δ, k, e, f, hw, a, ax⟩ =>
  ⟨M, A, L, δ, _, e, f, hw, fun v d H1 s1 m1 hv hk => by
    rw [hK]
    cases d with
    | tup l =>
      obtain ⟨q, vs, rfl, sq, all⟩ := hv.tuple
      exact ⟨q, vs, rfl, .inl sq, M, A, L, δ, _, e, f.step s1 m1, hk, fun us ds H2 s2 m2 hvs hk2 => a _ _ _ (s1.trans m1 s2) m2 ((all.same ((Stp.wide s2).hv f.mA)).app hvs) hk2, ax.step s1 m1⟩
    | lst l =>
      obtain ⟨q, vs, rfl, sq, all⟩ := hv.list
      exact ⟨q, vs, rfl, .inr (.inl (.inl sq)), M, A, L, δ, _, e, f.step s1 m1, hk, fun us ds H2 s2 m2 hvs hk2 => a _ _ _ (s1.trans m1 s2) m2 ((all.same ((Stp.wide s2).hv f.mA)).app hvs) hk2, ax.step s1 m1⟩
    | _ => exact hk.elim, ax⟩
theorem xWNil : PA X [] (tPAW S E wNil) := paTo pa_nil fun σ H Q ⟨M, A, L, δ, k, e, f, hw, a, ax⟩ => a _ _ _ .refl f.mu .nil hw
theorem xWCons (ha : PE X x (tPW S E wa)) (hr : PA X xs (tPAW S E ws)) (hs : starEach (x :: xs) X.env = (false, eval x X.env) :: starEach xs X.env := by rfl) : PA X (x :: xs) (tPAW S E (wCons wa ws)) := paTo (pa_cons ha hr hs) fun σ H Q ⟨M, A, L, δ, k, e, f, hw, a, ax⟩ =>
  ⟨M, A, L, δ, _, e, f, hw, fun v d H1 s1 m1 hv hk => ⟨M, A, L, δ, _, e, f.step s1 m1, hk, fun vs ds H2 s2 m2 hvs hk2 =>
    a _ _ _ (s1.trans m1 s2) m2 (.cons (hv.step s2 f.mA f.dis) hvs) hk2, ax.step s1 m1⟩, ax⟩
theorem das_new {M : Mu} {B : List Addr} {H : Hp} {vs : List V} {ds : List Dt} {p : Addr} {o : HO} (n : H p = none) (h : Das S M (hv B H) vs ds) : Das S M (hv B (upd H p o)) vs ds := h.same (Go.hv (Go.of (same_new n)))
theorem xTup {x1} (h : PA X xs (tPA S E ws)) : PE X (.Tuple xs x1 pos) (tP S E (wTup ws)) := peTo (pe_tup h) fun σ H Q ⟨M, A, L, δ, k, e, f, hw, a, ax⟩ =>
  ⟨M, A, L, δ, _, e, f, hw, fun vs ds H1 s1 m1 hv hk => ⟨by rw [hv.len]; exact hk.1, fun p np => a _ _ _ (s1.trans m1 (.of (same_new np))) (m1.same (same_new np))
    (.tup' (.inl (.inl (by rw [hv_out fun z => held_stp s1 m1 f.hd p z np]; exact upd_same))) (das_new np hv)) hk.2⟩, ax⟩
theorem xLst (h : PA X xs (tPA S E ws)) : PE X (.List xs pos) (tPF S E (wLst ws)) := peTo (pe_lst h) fun σ H Q ⟨M, A, L, δ, k, e, f, hw, a, ax⟩ =>
  ⟨M, A, L, δ, _, e, f, hw, fun vs ds H1 s1 m1 hv hk => ⟨by rw [hv.len]; exact hk.1, fun p np => a p vs ds _ (stp_free s1 m1 np) (s1.trans m1 (.of (same_new np))) (m1.same (same_new np)) upd_same
    ((hv.same (hv_more np)).same (Go.hv (Go.of (same_new np)))) hk.2⟩, ax⟩
theorem callT {f : SpF} {n : Nat} : ∀ σ H Q, tP S E (wCall n f ws) σ H Q → tCall (spW S n f) [] E (tPA S E ws) σ H Q := fun σ H Q ⟨M, A, L, δ, k, e, fr, hw, a, ax⟩ =>
  ⟨M, A, L, δ, _, e, fr, hw, fun vs ds H1 s1 m1 hv hk => by
    show spW S n f (vs ++ []) H1 Q E
    rw [List.append_nil]
    exact ⟨M, L ++ A, ds, k, e, by rw [hv.len]; exact hk.1, held_stp s1 m1 fr.hd, fun x hx => List.mem_append_right _ (fr.mA x hx), m1, hv, hk.2, fun v d H2 s2 m2 hd2 hk2 => a v d H2 (s1.trans m1 s2) m2 hd2 hk2,
      fun x c dd H2 s2 m2 hx he => ax x c dd H2 (s1.trans m1 s2) m2 ⟨hx.1, by
        have h2 := hx.2
        revert h2
        cases x.fld with
        | none => exact id
        | some nd =>
          intro h2
          obtain ⟨q, v, z1, z2, z3⟩ := h2
          exact ⟨q, v, z1, z2, z3.same (hv_sub fun y hy => List.mem_append_right _ hy)⟩⟩ he⟩, ax⟩
theorem calBT {r : List V → Hp → VK → Prop} {g : List Dt → (Dt → Prop) → Prop} (hp : CallP S r g) : ∀ σ H Q, tP S E (wCal g ws) σ H Q → tCB r (tPAW S E ws) σ H Q := fun σ H Q ⟨M, A, L, δ, k, e, f, hw, a, ax⟩ =>
  ⟨M, A, L, δ, _, e, f, hw, fun vs ds H1 s1 m1 hv hk => hp M L A H1 vs ds k Q (held_stp s1 m1 f.hd) m1 f.dis hv hk (a.step s1 m1), ax⟩
theorem calBF {r : List V → Hp → VK → Prop} {g : List Dt → (Dt → Prop) → Prop} (hp : CallF S r g) : ∀ σ H Q, tPF S E (wCal g ws) σ H Q → tCB r (tPAW S E ws) σ H Q := fun σ H Q ⟨M, A, L, δ, k, e, f, hw, a, ax⟩ =>
  ⟨M, A, L, δ, _, e, f, hw, fun vs ds H1 s1 m1 hv hk => hp M L A H1 vs ds k Q (held_stp s1 m1 f.hd) m1 f.dis hv hk (a.step s1 m1), ax⟩
end
end LW

set_option Elab.async false
set_option linter.all false
set_option maxRecDepth 100000
set_option maxHeartbeats 4000100
/-! sum(t) and min(t) of a tuple of ints -/
namespace LW
open L2 PySem.Spec PyProof.Rows PySem
section
variable {prog : Program} {w : World} {A : Around} {E : Value
      → Shared → Prop} {s : Shared}
theorem sum_tup_raw {l : Addr} {its : List Value} {ns : List Int} {Q : Value → Shared → Prop} (hh : A.handled = none) (hl : s.heap.IsTuple l its.toArray) (hi : IntsAre its ns)
    (h : ∀ h' tk t', (∀ b o, s.heap.get? b = some o → h'.get? b = some o) → Q (.int ns.sum t') { s with heap := h', toks := tk }) : wpAny
          (model prog w) A (call (.builtin "sum") [.ref l]) Q E s := by
  obtain ⟨xs, e⟩ :=
        hi.allInts.items
  have hn : numsOf (intItems xs).toList = ns := by
        rw [← e]; exact hi.numsOf
  rw [nums_intItems] at hn
  rw [e] at hl
  have hlt : l < s.heap.objs.size := by
        obtain ⟨_, e, _⟩ := hl; exact Heap.lt_size e
  refine PySem.call_sum_walkG (wpAny_pyIter_tuple hl ?_)
  refine ⟨_, _, _, _, _, _, numAt xs, rfl, Walks.tuple (A := A.in1) hh _ l (Nat.ne_of_lt hlt) (intItems xs), ⟨⟨_, Heap.get?_push_size _ rfl, rfl, rfl⟩, hl.push _⟩, (fun b hb => ?_), (fun _ _ => intItems_at), fun h' tk t' hk => ?_⟩
  · show b < (s.heap.push
        _).objs.size
    rw [Heap.size_push]
    rcases List.mem_cons.mp hb
          with rfl | hb
    · exact Nat.lt_succ_self _
    · rcases List.mem_cons.mp hb
          with rfl | hb
      · exact Nat.lt_succ_of_lt hlt
      · cases hb
  · have := h h' tk t' (fun b o eo => hk b o (fun hm => absurd (Heap.lt_size eo) ((List.mem_singleton.mp hm) ▸ Nat.lt_irrefl _)) (Heap.get?_push_of_some _ eo))
    have e2 : preSum (numAt xs) (intItems xs).size = ns.sum := by
      rw [show (intItems xs).size = xs.size by simp [intItems], preSum_eq, List.take_of_length_le (by simp), hn]
    rw [e2]
    exact this
end
section
variable {X : Cx}
def rSumT (K : PySem.W.Frag) : List V → Hp → VK → Prop := fun vs H Q => ∃ (a : Addr) (ns : List Int), vs = [V.ref a] ∧ SqT K H a (ns.map V.int) ∧ Q (.int ns.sum) H
theorem cr_sumT (hc : X.calm = true) : CallR X (.builtin "sum") (rSumT X.K) := by
  intro pins s σ H vs
        us Q I r h
  obtain ⟨a, ns, rfl,
        hs, q⟩ := h
  obtain ⟨its, rv, ht, _⟩ := I.tuple hs
  rw [Vals.ref1 r]
  exact sum_tup_raw (I.ok.hd hc) ht rv.ints fun h' tk t' hk => ⟨.int _, H, I.kept hk, ⟨_, rfl⟩, q⟩
/-- min of a tuple of two ints -/
def rMinT2 (K : PySem.W.Frag) : List V → Hp → VK → Prop := fun vs H Q => ∃ (a : Addr) (x y : Int), vs = [V.ref a] ∧ SqT K H a [.int x, .int y] ∧ ∀ m : Int, (m = x ∨ m = y) → m ≤ x → m ≤ y → Q (.int m) H
theorem cr_minT2 (hc : X.calm = true) {k : Nat} (hr : Room k X.A) : CallR X (.builtin "min") (rMinT2 X.K) := by
  intro pins s σ H vs
        us Q I r h
  obtain ⟨a, x, y, rfl, hs, q⟩ := h
  obtain ⟨its, rv, ht, _⟩ := I.tuple hs
  rw [Vals.ref1 r]
  have un := hr.un
  have hd : DAll X.K H [V.int x, V.int y] [PyData.int x, PyData.int y] := DAll.cons (.int x) (DAll.cons (.int y) DAll.nil)
  obtain ⟨as, ra, _⟩ := readsAll_of (P := fun _ => True) (h := s.heap) (us := its) (ds := [PyData.int x, PyData.int y]) trivial (fun _ _ _ _ => trivial) (by rw [← rv.length]; rfl) fun i u d h1 h2 => by
    obtain ⟨v, e, rx⟩ := vals_get' rv h1
    obtain ⟨as, z⟩ := D.reads I (hd.all i v d e h2) u rx
    exact ⟨as, z, trivial⟩
  refine PySem.W.min_tuple_data (vs := its.toArray) (I.ok.hd hc) ht ra ?_ ?_ fun i v h' tk bs _ rd hk => ?_
  · refine ⟨fun a ha b hb => ?_, fun a ha => ?_⟩
    · simp only [List.mem_cons, List.not_mem_nil, or_false] at ha hb
      rcases ha with rfl | rfl <;> rcases hb with rfl | rfl <;> rfl
    · simp only [List.mem_cons, List.not_mem_nil, or_false] at ha
      rcases ha with rfl | rfl <;> exact fun z => nomatch z
  · have : PyData.depthAll [PyData.int x, PyData.int y] = 0 := rfl
    rw [this]
    omega
  · have e : PySem.W.minD (.int x) [.int y] = .int (min x y) := PySem.W.minD_ints x [y]
    rw [e] at rd
    cases rd with
    | int _ t => exact ⟨.int _, H, I.kept hk, ⟨_, rfl⟩, q _ (by omega) (by omega) (by omega)⟩
end
end LW

set_option Elab.async false
set_option linter.all false
set_option maxRecDepth 100000
set_option maxHeartbeats 4000100
/-! repr of data in which empty dicts may stand at any place -/
namespace LW
open L2 PySem.Spec PyProof.Rows PySem
/-- v is the data d, and nothing of it stands where sys.modules does -/
inductive DO (K : PySem.W.Frag) (H : Hp) : V → PyData → Prop
  | non : DO K H .non .none
  | bl (b : Bool) : DO K H (.bl b) (.bool b)
  | int (i : Int) : DO K H (.int i) (.int i)
  | str (x : Str) : DO K H (.str x) (.str x)
  | lst {a : Addr} {xs : List V} {ds : List PyData} (h : SqL K H a xs) (ne : a ≠ sysModules) (len : xs.length = ds.length) (all : ∀ (i : Nat) (v : V) (d : PyData), xs[i]? = some v → ds[i]? = some d → DO K H v d) : DO K H (.ref a) (.list ds)
  | tup {a : Addr} {xs : List V} {ds : List PyData} (h : SqT K H a xs) (ne : a ≠ sysModules) (len : xs.length = ds.length) (all : ∀ (i : Nat) (v : V) (d : PyData), xs[i]? = some v → ds[i]? = some d → DO K H v d) : DO K H (.ref a) (.tuple ds)
  | dct {a : Addr} (h : H a = some (.dK [])) (ne : a ≠ sysModules) : DO K H (.ref a) (.dict [])
section
variable {K : PySem.W.Frag} {H H' : Hp} {v : V} {d : PyData}
theorem DO.dat (h : DO K H v d) : D K H v d := by
  induction h with
  | non => exact .non
  | bl b => exact .bl b
  | int i => exact .int i
  | str x => exact .str x
  | lst h _ len _ ih => exact .lst h len ih
  | tup h _ len _ ih => exact .tup h len ih
  | dct h ne => exact .dct h ne
theorem DO.same (s : Same H H') (h : DO K H v d) : DO K H' v d := by
  induction h with
  | non => exact .non
  | bl b => exact .bl b
  | int i => exact .int i
  | str x => exact .str x
  | lst h ne len _ ih => exact .lst (s.seq h) ne len ih
  | tup h ne len _ ih => exact .tup (seqT_same s h) ne len ih
  | dct h ne => exact .dct (s _ _ h) ne
structure DOs (K : PySem.W.Frag) (H : Hp) (xs : List V) (ds : List PyData) : Prop where
  len : xs.length = ds.length
  all : ∀ (i : Nat) (v : V) (d : PyData), xs[i]? = some v → ds[i]? = some d → DO K H v d
theorem DOs.nil : DOs K H [] [] := ⟨rfl, fun i v d h => by simp at h⟩
theorem DOs.cons {xs : List V} {ds : List PyData} (h : DO K H v d) (t : DOs K H xs ds) : DOs K H (v :: xs) (d :: ds) := by
  refine ⟨by simp [t.len], fun i u e h1 h2 => ?_⟩
  cases i with
  | zero => cases h1; cases h2; exact h
  | succ i => exact t.all i u e h1 h2
theorem DOs.snoc {xs : List V} {ds : List PyData} (t : DOs K H xs ds) (h : DO K H v d) : DOs K H (xs ++ [v]) (ds ++ [d]) := by
  refine ⟨by simp [t.len], fun i u e h1 h2 => ?_⟩
  rcases Nat.lt_or_ge i xs.length with y | y
  · rw [List.getElem?_append_left y] at h1
    rw [List.getElem?_append_left (by rw [← t.len]; exact y)] at h2
    exact t.all i u e h1 h2
  · rw [List.getElem?_append_right y] at h1
    rw [List.getElem?_append_right (by rw [← t.len]; exact y)] at h2
    rw [t.len] at h1
    cases hj : i - ds.length with
    | zero =>
      rw [hj] at h1 h2
      cases h1
      cases h2
      exact h
    | succ j => rw [hj] at h1; simp at h1
theorem DOs.same {xs : List V} {ds : List PyData} (s : Same H H') (t : DOs K H xs ds) : DOs K H' xs ds := ⟨t.len, fun i v d h1 h2 => (t.all i v d h1 h2).same s⟩
theorem DO.list {a : Addr} {xs : List V} {ds : List PyData} (h : SqL K H a xs) (ne : a ≠ sysModules) (t : DOs K H xs ds) : DO K H (.ref a) (.list ds) := .lst h ne t.len t.all
end
section
variable {X : Cx} {pins : List (Addr × Obj)} {σ :
      L2.St} {H : Hp} {s : Shared}
theorem DO.reads (I : Inv X pins σ H s) {v : V} {d : PyData} (h : DO X.K H v d) : ∀ u, RelV v u → ∃ as, Reads s.heap u d as ∧ sysModules ∉ as := by
  have app : ∀ a b : List Addr, sysModules ∉ a → sysModules ∉ b → sysModules ∉ a ++ b := fun a b h1 h2 z => (List.mem_append.mp z).elim h1 h2
  have own : ∀ (a : Addr) (as : List Addr), a ≠ sysModules → sysModules ∉ as → sysModules ∉ a :: as := fun a as h1 h2 z => (List.mem_cons.mp z).elim (fun e => h1 e.symm) h2
  induction h with
  | non => intro u r; cases r; exact ⟨_, .none, by simp⟩
  | bl b => intro u r; cases r; exact ⟨_, .bool b, by simp⟩
  | int i => intro u r; obtain ⟨t, rfl⟩ := r; exact ⟨_, .int i t, by simp⟩
  | str x => intro u r; obtain ⟨t, rfl⟩ := r; exact ⟨_, .str x t, by simp⟩
  | lst h ne len all ih =>
    intro u r
    cases r
    obtain ⟨its, rv, ⟨o, n, ho, hc, _, hd⟩, _⟩ := I.list h
    obtain ⟨as, hr, off⟩ := readsAll_of (P := fun as => sysModules ∉ as) (h := s.heap) (us := its) (by simp) app (by rw [← rv.length, len]) fun i u d h1 h2 => by
      obtain ⟨x, e, rx⟩ := vals_get' rv h1
      exact ih i x d e h2 u rx
    exact ⟨_, .list ho hc hd hr, own _ _ ne off⟩
  | tup h ne len all ih =>
    intro u r
    cases r
    obtain ⟨its, rv, ⟨o, ho, hc, n, hd⟩, _⟩ := I.tuple h
    obtain ⟨as, hr, off⟩ := readsAll_of (P := fun as => sysModules ∉ as) (h := s.heap) (us := its) (by simp) app (by rw [← rv.length, len]) fun i u d h1 h2 => by
      obtain ⟨x, e, rx⟩ := vals_get' rv h1
      exact ih i x d e h2 u rx
    exact ⟨_, .tuple ho hc hd hr, off⟩
  | dct h ne =>
    intro u r
    cases r
    obtain ⟨_, _, vs, kv, o, es, ep, ho, ⟨hc, _, _⟩, hd, _, prs, _⟩ := I.hok _ _ h
    cases kv
    have e0 : es.toList = [] := by
      cases q : es.toList with
      | nil => rfl
      | cons x r => rw [q] at prs; cases prs
    refine ⟨_, Reads.dict ho hc hd (as := []) (bs := []) ?_ ?_, own _ _ ne (by simp)⟩
    · rw [e0]; exact .nil
    · rw [e0]; exact .nil
theorem call_reprA (quiet : X.A.guards = some []) {k : Nat} (hr : Room k X.A) : CallR X (.builtin "repr") (fun xs H Q => ∃ (a : Addr) (d : PyData), xs = [.ref a] ∧ (DO X.K H (.ref a) d ∨ (D X.K H (.ref a) d ∧ d.hasDict = false)) ∧ d.showable = true ∧ d.depth ≤ 60 ∧ d.shown.length ≤ sizeLine ∧ Q (.str d.shown) H) := by
  intro pins s σ H xs
        us Q I r h
  obtain ⟨a, d, rfl, hd, hs, hdep, hsz, q⟩ := h
  rcases hd with hd | ⟨hd, hn⟩
  · obtain ⟨u, rfl, ru⟩ := vals1 r
    obtain rfl : u = Value.ref
          a := ru
    obtain ⟨as, rr, off⟩ := hd.reads I _ rfl
    have un := hr.un
    refine repr_of_reads' rr hs (fun _ => off) quiet (by omega) (fun _ _ e => e) (fun h' u tk hk => ?_) hsz
    exact ⟨.str d.shown, H, I.kept hk, ⟨_, rfl⟩, q⟩
  · exact call_reprD quiet hr pins s σ H _ us Q I r ⟨a, d, rfl, hd, hs, hn, hdep, hsz, q⟩
end
/-! displays and + : the new address is not that of sys.modules -/
section
variable {X : Cx} {es : List Expr} {t : TA} {pos : Pos} {pins : List (Addr × Obj)} {σ : L2.St} {H : Hp} {s : Shared}
theorem big_of (I : Inv X pins σ H s) : s.heap.objs.size ≠ sysModules := by
  obtain ⟨o, es, ep, e, _⟩ := I.ok.mod.glob
  have b1 : (3 : Nat) < s.heap.objs.size := Heap.lt_size (I.bk _ _ e)
  have b2 : s.heap.objs.size ≠ (1 : Nat) := by omega
  exact b2
def tLstS (t : TA) : TE := fun σ H Q => t σ H fun xs H1 => xs.length ≤ sizeLine ∧ ∀ p, H1 p = none → p ≠ sysModules → Q (.ref p) (upd H1 p (.lst xs))
theorem pe_lstS (h : PA X es t) : PE X (.List es pos) (tLstS t) := by
  refine ⟨fun pins s σ H Q
        I hq => ?_⟩
  refine wpAny_List_spliced (thn (h.run pos pins s σ H _ I hq) fun us s1 ⟨xs, H1, I1, r,
        z, q⟩ => ⟨by rw [← r.length]; exact z, ?_⟩)
  have hf : H1 s1.heap.objs.size = none :=
        I1.hok.fresh (Nat.le_refl _)
  refine ⟨.ref s1.heap.objs.size, upd H1 s1.heap.objs.size (.lst xs), I1.laid (t' := s1.toks) (fun b u e => Heap.get?_push_of_some _ e) (Nat.le_refl _) ?_, rfl, q _ hf (big_of I1)⟩
  exact ⟨z, us, 0, r, Heap.get?_push_size
        _ rfl⟩
def tTupS (t : TA) : TE := fun σ H Q => t σ H fun xs H1 => xs.length ≤ sizeLine ∧ ∀ p, H1 p = none → p ≠ sysModules → Q (.ref p) (upd H1 p (.tup xs))
theorem pe_tupS {x1} (h : PA X es t) : PE X (.Tuple es x1 pos) (tTupS t) := by
  refine ⟨fun pins s σ H Q
        I hq => ?_⟩
  refine wpAny_Tuple_spliced (thn (h.run pos pins s σ H _ I hq) fun us s1 ⟨xs, H1, I1, r,
        z, q⟩ => ⟨by rw [← r.length]; exact z, ?_⟩)
  have hf : H1 s1.heap.objs.size = none :=
        I1.hok.fresh (Nat.le_refl _)
  refine ⟨.ref s1.heap.objs.size, upd H1 s1.heap.objs.size (.tup xs), I1.laid (t' := s1.toks) (fun b u e => Heap.get?_push_of_some _ e) (Nat.le_refl _) ?_, rfl, q _ hf (big_of I1)⟩
  exact ⟨z, us, r, ⟨_, Heap.get?_push_size
        _ rfl, rfl, _, rfl⟩⟩
def rCatS : R2 := fun x y H Q => ∃ l b xs zs, x = .ref l ∧ y = .ref b ∧ H l = some (.lst xs) ∧ H b = some (.lst zs) ∧ xs.length + zs.length ≤ sizeLine ∧ ∀ p, H p = none → p ≠ sysModules → Q (.ref p) (upd H p (.lst (xs ++ zs)))
theorem op_catS : OpR X (binaryOp .Add) rCatS := by
  intro pins s σ H x y v u
        Q I rx ry h
  obtain ⟨l, b, xs, zs, rfl, rfl, hH,
        hB, hz, q⟩ := h
  cases rx
  cases ry
  obtain ⟨z, its, n, r, hl, e⟩
        := I.lstM hH
  obtain ⟨z2, its2, n2, r2, hl2,
        e2⟩ := I.lstM hB
  have sz2 : its.toArray.size + its2.toArray.size ≤ sizeLine := by
    rw [List.size_toArray,
          List.size_toArray]
    omega
  refine PySem.P.add_list e e2 ?_ sz2
  have ea : its.toArray ++ its2.toArray = (its ++
        its2).toArray := by simp
  rw [ea]
  exact ⟨.ref _, _, I.lnew (t' := s.toks) (r.append r2) (by rw [List.length_append]; omega), rfl, q _ I.fresh (big_of I)⟩
end
end LW

set_option Elab.async false
set_option linter.all false
set_option maxRecDepth 100000
set_option maxHeartbeats 4000100
/-! the operations on plain data -/
namespace LW
open L2 PySem.Spec PyProof.Rows PySem
/-! ### plain data as the library's data -/
mutual
def toPy : Dt → Option PyData
  | .non => some .none
  | .bl b => some (.bool b)
  | .int i => some (.int i)
  | .str x => some (.str x)
  | .lst l => (toPys l).map PyData.list
  | .tup l => (toPys l).map PyData.tuple
  | .dct => some (.dict [])
  | .ty _ => none
  | .tnk _ => none
  | .obj _ _ => none
  | .fn _ => none
def toPys : List Dt → Option (List PyData)
  | [] => some []
  | d :: ds => match toPy d, toPys ds with
    | some p, some ps => some (p :: ps)
    | _, _ => none
end
theorem toPys_len : ∀ {ds : List Dt} {ps : List PyData}, toPys ds = some ps → ds.length = ps.length
  | [], ps, h => by rw [toPys] at h; cases h; rfl
  | d :: ds, ps, h => by
    rw [toPys] at h
    cases e : toPy d with
    | none => rw [e]
          at h; cases h
    | some p =>
      cases e2 : toPys ds with
      | none => rw [e, e2] at h; cases h
      | some qs =>
        rw [e, e2] at h
        cases h
        rw [List.length_cons, List.length_cons, toPys_len e2]
theorem toPys_get : ∀ {ds : List Dt} {ps : List PyData}, toPys ds = some ps → ∀ (i : Nat) (d : Dt) (p : PyData), ds[i]? = some d → ps[i]? = some p → toPy d = some p
  | [], ps, h, i, d, p, h1, _ => by simp at h1
  | d :: ds, ps, h, i, e, p, h1, h2 => by
    rw [toPys] at h
    cases e1 : toPy d with
    | none => rw [e1] at h; cases h
    | some q =>
      cases e2 : toPys ds with
      | none => rw [e1, e2] at h; cases h
      | some qs =>
        rw [e1, e2] at h
        cases h
        cases i with
        | zero => cases h1; cases h2; exact e1
        | succ i => exact toPys_get e2 i e p h1 h2
section
variable {S : Su} {M : Mu} {L A : List Addr} {H : Hp} {v : V} {d : Dt} {p : PyData}
theorem Da.toD (h : Da S M H v d) : ∀ p, toPy d = some p → D S.K H v p := by
  induction h with
  | non => intro p e; rw [toPy] at e; cases e; exact .non
  | bl b => intro p e; rw [toPy] at e; cases e; exact .bl b
  | int i => intro p e; rw [toPy] at e; cases e; exact .int i
  | str x => intro p e; rw [toPy] at e; cases e; exact .str x
  | @lst a xs ds h len all ih =>
    intro p e
    rw [toPy] at e
    cases q : toPys ds with
    | none => rw [q]
          at e; cases e
    | some ps =>
      rw [q] at e
      cases e
      refine .lst (.inl (.inl h)) (by rw [len, toPys_len q]) fun i v pd h1 h2 => ?_
      have hi : i < ds.length := by rw [← len]; exact (List.getElem?_eq_some_iff.mp h1).1
      exact ih i v _ h1 (List.getElem?_eq_getElem hi) pd (toPys_get q i _ _ (List.getElem?_eq_getElem hi) h2)
  | @tup a xs ds h len all ih =>
    intro p e
    rw [toPy] at e
    cases q : toPys ds with
    | none => rw [q]
          at e; cases e
    | some ps =>
      rw [q] at e
      cases e
      refine .tup h (by rw [len, toPys_len q]) fun i v pd h1 h2 => ?_
      have hi : i < ds.length := by rw [← len]; exact (List.getElem?_eq_some_iff.mp h1).1
      exact ih i v _ h1 (List.getElem?_eq_getElem hi) pd (toPys_get q i _ _ (List.getElem?_eq_getElem hi) h2)
  | dct h ne => intro p e; rw [toPy] at e; cases e; exact .dct h ne
  | ty n => intro p e; rw [toPy] at e; cases e
  | tnk h => intro p e; rw [toPy] at e; cases e
  | obj h => intro p e; rw [toPy] at e; cases e
  | fn h r => intro p e; rw [toPy] at e; cases e
theorem Dw.toD (h : Dw S M L A H v d) (e : toPy d = some p) : D S.K H v p := by
  rcases h with h | ⟨q, vs, ds, rfl, rfl, pL, e1, h⟩
  · exact D.same hv_le (h.toD p e)
  · have h2 : Da S M H (.ref q) (.lst ds) := .lst' e1 (h.same hv_le)
    exact h2.toD p e
/-- data as plain data -/
theorem Da.of (h : D S.K H v p) (raw : ∀ a xs, SqL S.K H a xs → H a = some (.lst xs)) : ∀ d, toPy d = some p → Da S M H v d := by
  induction h with
  | non => intro d e; cases d <;> simp [toPy] at e <;> exact .non
  | bl b => intro d e; cases d <;> simp [toPy] at e; subst e; exact .bl _
  | int b => intro d e; cases d <;> simp [toPy] at e; subst e; exact .int _
  | str b => intro d e; cases d <;> simp [toPy] at e; subst e; exact .str _
  | @lst a xs ds h len all ih =>
    intro d e
    cases d <;> simp only [toPy, Option.map_eq_some_iff, Option.some.injEq, PyData.list.injEq, PyData.tuple.injEq, reduceCtorEq, and_false, exists_false, exists_eq_right] at e
    refine .lst (raw a xs h) (by rw [len, toPys_len e]) fun i v dt h1 h2 => ?_
    have hi : i < ds.length := by rw [← len]; exact (List.getElem?_eq_some_iff.mp h1).1
    exact ih i v _ h1 (List.getElem?_eq_getElem hi) dt (toPys_get e i _ _ h2 (List.getElem?_eq_getElem hi))
  | @tup a xs ds h len all ih =>
    intro d e
    cases d <;> simp only [toPy, Option.map_eq_some_iff, Option.some.injEq, PyData.list.injEq, PyData.tuple.injEq, reduceCtorEq, and_false, exists_false, exists_eq_right] at e
    refine .tup h (by rw [len, toPys_len e]) fun i v dt h1 h2 => ?_
    have hi : i < ds.length := by rw [← len]; exact (List.getElem?_eq_some_iff.mp h1).1
    exact ih i v _ h1 (List.getElem?_eq_getElem hi) dt (toPys_get e i _ _ h2 (List.getElem?_eq_getElem hi))
  | dct h ne => intro d e; cases d <;> simp [toPy] at e; exact .dct h ne
end
/-! ### what the operations give -/
def gAdd : Dt → Dt → (Dt → Prop) → Prop
  | .int i, .int j, k => k (.int (i + j))
  | .str a, .str b, k => a.length + b.length ≤ sizeLine ∧ k (.str (a ++ b))
  | .lst a, .lst b, k => a.length + b.length ≤ sizeLine ∧ k (.lst (a ++ b))
  | .tup a, .tup b, k => a.length + b.length ≤ sizeLine ∧ k (.tup (a ++ b))
  | _, _, _ => False
/-- only lists -/
def gCat : Dt → Dt → (Dt → Prop) → Prop
  | .lst a, .lst b, k => a.length + b.length ≤ sizeLine ∧ k (.lst (a ++ b))
  | _, _, _ => False
def gInt (f : Int → Int → Int) (c : Int → Int → Prop) : Dt → Dt → (Dt → Prop) → Prop
  | .int i, .int j, k => c i j ∧ k (.int (f i j))
  | _, _, _ => False
def gSub : Dt → Dt → (Dt → Prop) → Prop
  | .int i, .int j, k => k (.int (i - j))
  | _, _, _ => False
def gMul : Dt → Dt → (Dt → Prop) → Prop
  | .int i, .int j, k => CMulW i j ∧ k (.int (i * j))
  | .lst a, .int n, k => a.length ≤ 1000 ∧ -1000 ≤ n ∧ n ≤ 1000 ∧ k (.lst (List.replicate n.toNat a).flatten)
  | .tup a, .int n, k => a ≠ [] ∧ a.length ≤ 1000 ∧ 2 ≤ n ∧ n ≤ 1000 ∧ k (.tup (List.replicate n.toNat a).flatten)
  | _, _, _ => False
def gFdiv : Dt → Dt → (Dt → Prop) → Prop := gInt (fun i j => i / j) CDivW
def gMod : Dt → Dt → (Dt → Prop) → Prop := gInt (fun i j => i % j) fun _ j => 0 < j
def gPow : Dt → Dt → (Dt → Prop) → Prop := gInt (fun i j => i ^ j.toNat) CPow
def gCmp (f : Int → Int → Bool) : Dt → Dt → (Dt → Prop) → Prop
  | .int i, .int j, k => k (.bl (f i j))
  | _, _, _ => False
def gLt : Dt → Dt → (Dt → Prop) → Prop := gCmp fun i j => decide (i < j)
def gLe : Dt → Dt → (Dt → Prop) → Prop := gCmp fun i j => decide (i ≤ j)
def gGt : Dt → Dt → (Dt → Prop) → Prop := gCmp fun i j => decide (j < i)
def gGe : Dt → Dt → (Dt → Prop) → Prop := gCmp fun i j => decide (j ≤ i)
/-- == of data -/
def EqOk (x y : Dt) (b : Bool) : Prop := ∃ p q, toPy x = some p ∧ toPy y = some q ∧ SeqAt.shaped p = true ∧ SeqAt.shaped q = true ∧ PyData.eqv p q = b
def gEq (x y : Dt) (k : Dt → Prop) : Prop := ∃ b, EqOk x y b ∧ k (.bl b)
def gNe (x y : Dt) (k : Dt → Prop) : Prop := ∃ b, EqOk x y b ∧ k (.bl (!b))
def gIsN : Dt → Dt → (Dt → Prop) → Prop
  | .non, .non, k => k (.bl true)
  | .tnk _, _, _ => False
  | .fn _, _, _ => False
  | _, .non, k => k (.bl false)
  | _, _, _ => False
def gNotN : Dt → Dt → (Dt → Prop) → Prop := fun x y k => gIsN x y fun z => match z with | .bl b => k (.bl (!b)) | _ => False
/-- the place that an index means -/
def atD {α : Type} (l : List α) (i : Int) : Option α := if 0 ≤ i then l[i.toNat]? else if -(l.length : Int) ≤ i then l[(i + l.length).toNat]? else none
theorem atD_atI {α : Type} (l : List α) (i : Int) : atD l i = atI l i := by
  unfold atD atI ixN
  by_cases h : 0 ≤ i
  · rw [if_pos h, if_pos h]
    by_cases h2 : i < l.length
    · rw [if_pos h2]; rfl
    · rw [if_neg h2]
      simp only [Option.bind_none]
      exact List.getElem?_eq_none_iff.mpr
            (by omega)
  · rw [if_neg h, if_neg h]
    by_cases h2 : -(l.length : Int) ≤ i
    · rw [if_pos h2, if_pos h2]; rfl
    · rw [if_neg h2, if_neg h2]; rfl
def gIx : Dt → Dt → (Dt → Prop) → Prop
  | .lst l, .int i, k => ∃ d, atD l i = some d ∧ k d
  | .tup l, .int i, k => ∃ d, atD l i = some d ∧ k d
  | .str x, .int i, k => x.length ≤ sizeLine ∧ ∃ c, atD x.cps.toList i = some c ∧ k (.str ⟨#[c]⟩)
  | _, _, _ => False
section
variable {S : Su}
theorem get_das {M : Mu} {H : Hp} {vs : List V} {ds : List Dt} {i : Int} {d : Dt} (h : Das S M H vs ds) (e : atD ds i = some d) : ∃ v, atI vs i = some v ∧ Da S M H v d := by
  rw [← atD_atI]
  unfold atD at e ⊢
  rw [h.len]
  split at e
  · rename_i h0
    rw [if_pos h0]
    exact h.get e
  · rename_i h0
    rw [if_neg h0]
    split at e
    · rename_i h1
      rw [if_pos h1]
      exact h.get e
    · cases e
def rAddU (K : PySem.W.Frag) : R2 := fun x y H Q => rI0 (fun i j => .int (i + j)) x y H Q ∨ rAddS x y H Q ∨ rCat x y H Q ∨ rCatA K x y H Q
theorem op_addU {X : Cx} : OpR X (binaryOp .Add) (rAddU X.K) := by
  intro pins s σ H x y v u
        Q I r1 r2 h
  rcases h with h | h | h | h
  · exact op_add pins s σ H x y v u Q I r1 r2 h
  · exact op_add_str pins s σ H x y v u Q I r1 r2 h
  · exact op_cat pins s σ H x y v u Q I r1 r2 h
  · exact op_catA pins s σ H x y v u Q I r1 r2 h
theorem pAdd : OpP S (rAddU S.K) gAdd := by
  intro M L A H x y dx dy k Q hd m dis hx hy g a
  unfold gAdd at g
  split at g
  · exact .inl ⟨_, _, hx.int_eq, hy.int_eq, a _ _ _ .refl m (.int _) g⟩
  · exact .inr (.inl ⟨_, _, hx.str_eq, hy.str_eq, g.1, a _ _ _ .refl m (.str _) g.2⟩)
  · obtain ⟨p, vs, rfl, e1, q1⟩ := hx.list
    obtain ⟨p2, ws, rfl, e2, q2⟩ := hy.list
    refine .inr (.inr (.inl ⟨p, p2, vs, ws, rfl, rfl, e1, e2, by rw [q1.len, q2.len]; exact g.1, fun r nr => a _ _ _ (.of (same_new nr)) (m.same (same_new nr)) ?_ g.2⟩))
    exact .lst' (by rw [hv_out fun z => hd r z nr]; exact upd_same) (das_new nr (q1.app q2))
  · obtain ⟨p, vs, rfl, e1, q1⟩ := hx.tuple
    obtain ⟨p2, ws, rfl, e2, q2⟩ := hy.tuple
    have sx := hx.strong (fun l z => by cases z)
    have sy := hy.strong (fun l z => by cases z)
    refine .inr (.inr (.inr ⟨p, p2, vs, ws, rfl, rfl, e1, e2, by rw [q1.len, q2.len]; exact g.1, fun z => ?_, fun z1 z2 => ?_, fun _ _ r nr => a _ _ _ (.of (same_new nr)) (m.same (same_new nr)) ?_ g.2⟩))
    · have z : _ = ([] : List Dt) := List.length_eq_zero_iff.mp (by rw [← q1.len, z]; rfl)
      refine a _ _ _ .refl m sy ?_
      have g2 := g.2
      rw [z, List.nil_append] at g2
      exact g2
    · have z : _ = ([] : List Dt) := List.length_eq_zero_iff.mp (by rw [← q2.len, z2]; rfl)
      refine a _ _ _ .refl m sx ?_
      have g2 := g.2
      rw [z, List.append_nil] at g2
      exact g2
    · exact .tup' (.inl (.inl (by rw [hv_out fun z => hd r z nr]; exact upd_same))) (das_new nr (q1.app q2))
  · exact g.elim
theorem fCat : OpF S rCat gCat := by
  intro M L A H x y dx dy k Q hd m dis hx hy g a
  unfold gCat at g
  split at g
  · obtain ⟨p, vs, rfl, e1, q1⟩ := hx.list
    obtain ⟨p2, ws, rfl, e2, q2⟩ := hy.list
    exact ⟨p, p2, vs, ws, rfl, rfl, e1, e2, by rw [q1.len, q2.len]; exact g.1, fun r nr => a r _ _ _ nr (.of (same_new nr)) (m.same (same_new nr)) upd_same
      (((q1.app q2).same (hv_more nr)).same (Go.hv (Go.of (same_new nr)))) g.2⟩
  · exact g.elim
theorem pI0 {f : Int → Int → V} {g : Dt → Dt → (Dt → Prop) → Prop} (h : ∀ x y k, g x y k → ∃ i j d, x = .int i ∧ y = .int j ∧ k d ∧ ∀ M H, Da S M H (f i j) d) : OpP S (rI0 f) g := by
  intro M L A H x y dx dy k Q hd m dis hx hy gg a
  obtain ⟨i, j, d, rfl, rfl, hk, hf⟩ := h _ _ _ gg
  exact ⟨i, j, hx.int_eq, hy.int_eq, a _ _ _ .refl m (hf _ _) hk⟩
theorem pSub : OpP S (rI0 fun i j => .int (i - j)) gSub := pI0 fun x y k h => by
  unfold gSub at h
  split at h
  · exact ⟨_, _, _, rfl, rfl, h, fun _ _ => .int _⟩
  · exact h.elim
theorem pCmp {f : Int → Int → Bool} : OpP S (rI0 fun i j => .bl (f i j)) (gCmp f) := pI0 fun x y k h => by
  unfold gCmp at h
  split at h
  · exact ⟨_, _, _, rfl, rfl, h, fun _ _ => .bl _⟩
  · exact h.elim
theorem pLt : OpP S (rI0 fun i j => .bl (decide (i < j))) gLt := pCmp
theorem pLe : OpP S (rI0 fun i j => .bl (decide (i ≤ j))) gLe := pCmp
theorem pGt : OpP S (rI0 fun i j => .bl (decide (j < i))) gGt := pCmp
theorem pGe : OpP S (rI0 fun i j => .bl (decide (j ≤ i))) gGe := pCmp
theorem pInt {f : Int → Int → Int} {c : Int → Int → Prop} : OpP S (rI c fun i j => .int (f i j)) (gInt f c) := by
  intro M L A H x y dx dy k Q hd m dis hx hy g a
  unfold gInt at g
  split at g
  · exact ⟨_, _, hx.int_eq, hy.int_eq, g.1, a _ _ _ .refl m (.int _) g.2⟩
  · exact g.elim
theorem pFdiv : OpP S (rI CDivW fun i j => .int (i / j)) gFdiv := pInt
theorem pMod : OpP S (rI (fun _ j => 0 < j) fun i j => .int (i % j)) gMod := pInt
theorem pPow : OpP S (rI CPow fun i j => .int (i ^ j.toNat)) gPow := pInt
def rMulU (K : PySem.W.Frag) : R2 := fun x y H Q => rI CMulW (fun i j => .int (i * j)) x y H Q ∨ rRep x y H Q ∨ rRepT K x y H Q
theorem op_mulU {X : Cx} : OpR X (binaryOp .Mult) (rMulU X.K) := by
  intro pins s σ H x y v u
        Q I r1 r2 h
  rcases h with h | h | h
  · exact op_mulW pins s σ H x y v u Q I r1 r2 h
  · exact op_rep pins s σ H x y v u Q I r1 r2 h
  · exact op_repT pins s σ H x y v u Q I r1 r2 h
theorem das_rep {M : Mu} {H : Hp} {vs : List V} {ds : List Dt} (h : Das S M H vs ds) : ∀ n : Nat, Das S M H (List.replicate n vs).flatten (List.replicate n ds).flatten
  | 0 => .nil
  | n + 1 => by
    rw [List.replicate_succ, List.replicate_succ, List.flatten_cons,
          List.flatten_cons]
    exact h.app (das_rep h n)
theorem pMul : OpP S (rMulU S.K) gMul := by
  intro M L A H x y dx dy k Q hd m dis hx hy g a
  unfold gMul at g
  split at g
  · exact .inl ⟨_, _, hx.int_eq, hy.int_eq, g.1, a _ _ _ .refl m (.int _) g.2⟩
  · obtain ⟨p, vs, rfl, e1, q1⟩ := hx.list
    obtain ⟨g1, g0, g2, g3⟩ := g
    refine .inr (.inl ⟨p, _, vs, rfl, hy.int_eq, e1, by omega, by omega, ?_, fun r nr => a _ _ _ (.of (same_new nr)) (m.same (same_new nr)) ?_ g3⟩)
    · rw [q1.len, sizeLine_eq]
      exact Nat.le_trans (Nat.mul_le_mul g1 (show _ ≤ 1000 by omega)) (by decide)
    · exact .lst' (by rw [hv_out fun z => hd r z nr]; exact upd_same) (das_new nr (das_rep q1 _))
  · obtain ⟨p, vs, rfl, e1, q1⟩ := hx.tuple
    obtain ⟨g0, g1, g2, g3, g4⟩ := g
    refine .inr (.inr ⟨p, _, vs, rfl, hy.int_eq, e1, ?_, g2, g3, by rw [q1.len]; exact g1, fun r nr => a _ _ _ (.of (same_new nr)) (m.same (same_new nr)) ?_ g4⟩)
    · intro z
      exact g0 (List.length_eq_zero_iff.mp (by rw [← q1.len, z]; rfl))
    · exact .tup' (.inl (.inl (by rw [hv_out fun z => hd r z nr]; exact upd_same))) (das_new nr (das_rep q1 _))
  · exact g.elim
theorem sh_dict {d : PyData} (h : SeqAt.shaped d = true) : d.hasDict = false := PyData.hasDict_of_canLay d (SeqAt.canLay_of_shaped h)
theorem pEq : OpP S (rEqD S.K) gEq := by
  intro M L A H x y dx dy k Q hd m dis hx hy g a
  obtain ⟨b, ⟨p, q, e1, e2, s1, s2, rfl⟩, hk⟩ := g
  exact ⟨p, q, (hx.toD e1).dp (sh_dict s1), (hy.toD e2).dp (sh_dict s2), s1, s2, a _ _ _ .refl m (.bl _) hk⟩
theorem pNe : OpP S (rNeD S.K) gNe := by
  intro M L A H x y dx dy k Q hd m dis hx hy g a
  obtain ⟨b, ⟨p, q, e1, e2, s1, s2, rfl⟩, hk⟩ := g
  exact ⟨p, q, (hx.toD e1).dp (sh_dict s1), (hy.toD e2).dp (sh_dict s2), s1, s2, a _ _ _ .refl m (.bl _) hk⟩
theorem isN_of {M : Mu} {L A : List Addr} {H : Hp} {x y : V} {dx dy : Dt} {k : Dt → Prop} (hx : Dw S M L A H x dx) (hy : Dw S M L A H y dy) (g : gIsN dx dy k) : y = .non ∧ k (.bl (decide (x = .non))) := by
  unfold gIsN at g
  split at g
  · exact ⟨hy.non_eq, by rw [hx.non_eq]; exact g⟩
  · exact g.elim
  · exact g.elim
  · refine ⟨hy.non_eq, ?_⟩
    rename_i h1 h2 h3
    have : x ≠ .non := by
      cases dx with
      | non => exact (h1 rfl).elim
      | bl b => rw [hx.bl_eq]; exact fun z => by cases z
      | int b => rw [hx.int_eq]; exact fun z => by cases z
      | str b => rw [hx.str_eq]; exact fun z => by cases z
      | lst l => obtain ⟨p, vs, rfl, _⟩ := hx.list; exact fun z => by cases z
      | tup l => obtain ⟨p, vs, rfl, _⟩ := hx.tuple; exact fun z => by cases z
      | dct => cases hx.strong (fun l z => by cases z); exact fun z => by cases z
      | ty n => rw [hx.ty_eq]; exact fun z => by cases z
      | tnk n => exact absurd rfl (h2 n)
      | obj n d =>
        cases hx.strong (fun l z => by cases z) with
        | obj h => obtain ⟨p, rfl⟩ := S.obr h; exact fun z => by cases z
      | fn n => exact absurd rfl (h3 n)
    rw [decide_eq_false this]
    exact g
  · exact g.elim
theorem pIsN : OpP S (fun x y H Q => y = .non ∧ Q (.bl (decide (x = .non))) H) gIsN := by
  intro M L A H x y dx dy k Q hd m dis hx hy g a
  obtain ⟨e, hk⟩ := isN_of hx hy g
  exact ⟨e, a _ _ _ .refl m (.bl _) hk⟩
theorem pNotN : OpP S (fun x y H Q => y = .non ∧ Q (.bl (!decide (x = .non))) H) gNotN := by
  intro M L A H x y dx dy k Q hd m dis hx hy g a
  obtain ⟨e, hk⟩ := isN_of hx hy g
  exact ⟨e, a _ _ _ .refl m (.bl _) hk⟩
theorem pIx : OpP S (rIx S.K) gIx := by
  intro M L A H x y dx dy k Q hd m dis hx hy g a
  unfold gIx at g
  split at g
  · obtain ⟨p, vs, rfl, e1, q1⟩ := hx.list
    obtain ⟨d, e, hk⟩ := g
    obtain ⟨v, ev, hv⟩ := get_das q1 e
    exact .inl ⟨p, vs, _, v, rfl, hy.int_eq, .inl (.inl e1), ev, a _ _ _ .refl m hv hk⟩
  · obtain ⟨p, vs, rfl, e1, q1⟩ := hx.tuple
    obtain ⟨d, e, hk⟩ := g
    obtain ⟨v, ev, hv⟩ := get_das q1 e
    exact .inr (.inl ⟨p, vs, _, v, rfl, hy.int_eq, e1, ev, a _ _ _ .refl m hv hk⟩)
  · obtain ⟨gl, c, e, hk⟩ := g
    rw [atD_atI] at e
    exact .inr (.inr ⟨_, _, c, hx.str_eq, hy.int_eq, gl, e, a _ _ _ .refl m (.str _) hk⟩)
  · exact g.elim
end
/-! ### in -/
/-- x in l, l a list or tuple of data -/
def gIn (x y : Dt) (k : Dt → Prop) : Prop := ∃ p ps, toPy x = some p ∧ (toPy y = some (.list ps)) ∧ SeqAt.shaped p = true ∧ SeqAt.shaped (.list ps) = true ∧ k (.bl (ps.any fun z => PyData.eqv z p))
/-- a sign in a text -/
def gInS : Dt → Dt → (Dt → Prop) → Prop
  | .str x, .str z, k => ∃ c, x = ⟨#[c]⟩ ∧ k (.bl (decide (c ∈ z.cps.toList)))
  | _, _, _ => False
def gNotInS : Dt → Dt → (Dt → Prop) → Prop
  | .str x, .str z, k => ∃ c, x = ⟨#[c]⟩ ∧ k (.bl (!decide (c ∈ z.cps.toList)))
  | _, _, _ => False
section
variable {S : Su}
theorem pIn : OpP S (rInD S.K) gIn := by
  intro M L A H x y dx dy k Q hd m dis hx hy g a
  obtain ⟨p, ps, e1, e2, s1, s2, hk⟩ := g
  exact ⟨p, ps, (hx.toD e1).dp (sh_dict s1), (hy.toD e2).dp (sh_dict s2), s1, s2, a _ _ _ .refl m (.bl _) hk⟩
theorem pInS : OpP S rInS gInS := by
  intro M L A H x y dx dy k Q hd m dis hx hy g a
  unfold gInS at g
  split at g
  · obtain ⟨c, rfl, hk⟩ := g
    exact ⟨c, _, hx.str_eq, hy.str_eq, a _ _ _ .refl m (.bl _) hk⟩
  · exact g.elim
theorem pNotInS : OpP S rNotInS gNotInS := by
  intro M L A H x y dx dy k Q hd m dis hx hy g a
  unfold gNotInS at g
  split at g
  · obtain ⟨c, rfl, hk⟩ := g
    exact ⟨c, _, hx.str_eq, hy.str_eq, a _ _ _ .refl m (.bl _) hk⟩
  · exact g.elim
end
/-! ### slices, -x -/
def gNeg : Dt → (Dt → Prop) → Prop
  | .int i, k => k (.int (-i))
  | _, _ => False
abbrev WO := De → (Option Int → Prop) → (Er → Prop) → Prop
def wNo : WO := fun _ k _ => k none
def wPart (w : WE) : WO := fun δ k e => w δ (fun d => match d with | .int i => k (some i) | _ => False) e
def tPO (S : Su) (E : XK) (w : WO) : TO := fun σ H Q => ∃ M A L δ k e, Fr S M A L σ δ H ∧ w δ k e ∧ (∀ o H', Stp M [] H [] H' → MOk S M H' → k o → Q o H') ∧ AftX S M A H e E
/-- the part of a list from lo to hi -/
def cutL {α : Type} (xs : List α) (lo hi : Option Int) : List α := (xs.drop (HT.sIx xs.length 0 lo)).take (HT.sIx xs.length xs.length hi - HT.sIx xs.length 0 lo)
def gSlL (x : Dt) (lo hi : Option Int) (k : Dt → Prop) : Prop := match x with
  | .lst l => k (.lst (cutL l lo hi))
  | _ => False
def gSl (x : Dt) (lo hi : Option Int) (k : Dt → Prop) : Prop := match x with
  | .lst l => k (.lst (cutL l lo hi))
  | .tup l => ¬ (HT.sIx l.length 0 lo = 0 ∧ HT.sIx l.length l.length hi = l.length) ∧ k (.tup (cutL l lo hi))
  | .str x => x.length ≤ sizeLine ∧ k (.str (Txt.slice x lo hi))
  | _ => False
def wSl (g : Dt → Option Int → Option Int → (Dt → Prop) → Prop) (wx : WE) (wl wh : WO) : WE := fun δ k e => wx δ (fun x => wl δ (fun l => wh δ (fun h => g x l h k) e) e) e
section
variable {X : Cx} {S : Su} {E : XK} {wx wa : WE} {wl wh : WO} {x y : Expr} {pos : Pos}
theorem xNo : PO X none (tPO S E wNo) := ⟨fun pins s σ H Q I ⟨M, A, L, δ, k, e, f, hw, a, ax⟩ => po_none.run pins s σ H Q I (a none H .refl f.mu hw)⟩
theorem xPart (h : PE X x (tP S E wa)) : PO X (some x) (tPO S E (wPart wa)) := ⟨fun pins s σ H Q I ⟨M, A, L, δ, k, e, f, hw, a, ax⟩ => (po_some h).run pins s σ H Q I ⟨M, A, L, δ, _, e, f, hw, fun v d H1 s1 m1 hv hk => by
    cases d with
    | int i => exact ⟨i, hv.int_eq, a _ _ s1 m1 hk⟩
    | _ => exact hk.elim, ax⟩⟩
theorem das_cut {M : Mu} {H : Hp} {vs : List V} {ds : List Dt} {lo hi : Option Int} (h : Das S M H vs ds) : Das S M H (cutV vs lo hi) (cutL ds lo hi) := by
  unfold cutV cutL
  rw [h.len]
  exact (h.drop _).take _
def rSlU (K : PySem.W.Frag) : V → Option Int → Option Int → Hp → VK → Prop := fun x lo hi H Q => rSlL K x lo hi H Q ∨ rSlT K x lo hi H Q ∨ C8.rSlX x lo hi H Q
theorem sl_any : SlR X (rSlU X.K) := by
  intro pins s σ H x v vl vu lo hi sl
        Q I rx hs pl pu h
  rcases h with h | h | h
  · exact sl_list pins s σ H x v vl vu lo hi sl Q I rx hs pl pu h
  · exact sl_tup pins s σ H x v vl vu lo hi sl Q I rx hs pl pu h
  · exact C8.sl_txt pins s σ H x v vl vu lo hi sl Q I rx hs pl pu h
theorem xSl {p2 : Pos} {lo hi : Option Expr} (hx : PE X x (tPW S E wx)) (hl : PO X lo (tPO S E wl)) (hh : PO X hi (tPO S E wh)) (hK : X.K = S.K := by rfl) : PE X (.Subscript x (.Slice lo hi none p2) pos) (tP S E (wSl gSl wx wl wh)) :=
  peTo (pe_slice sl_any hx hl hh) fun σ H Q ⟨M, A, L, δ, k, e, f, hw, a, ax⟩ =>
  ⟨M, A, L, δ, _, e, f, hw, fun v d H1 s1 m1 hv hk => ⟨M, A, L, δ, _, e, f.step s1 m1, hk, fun o1 H2 s2 m2 hk2 => ⟨M, A, L, δ, _, e, f.step (s1.trans m1 s2) m2, hk2, fun o2 H3 s3 m3 hk3 => by
    have s13 := (s1.trans m1 s2).trans m2 s3
    have hd3 := held_stp s13 m3 f.hd
    have hv3 := (hv.step s2 f.mA f.dis).step s3 f.mA f.dis
    rw [hK]
    cases d with
    | lst l =>
      obtain ⟨p, vs, rfl, sq, all⟩ := hv3.list
      exact .inl ⟨p, vs, rfl, .inl (.inl sq), fun r nr => a _ _ _ (s13.trans m3 (.of (same_new nr))) (m3.same (same_new nr)) (.lst' (by rw [hv_out fun z => hd3 r z nr]; exact upd_same) (das_new nr (das_cut all))) hk3⟩
    | tup l =>
      obtain ⟨p, vs, rfl, sq, all⟩ := hv3.tuple
      exact .inr (.inl ⟨p, vs, rfl, sq, by rw [all.len]; exact hk3.1, fun r nr => a _ _ _ (s13.trans m3 (.of (same_new nr))) (m3.same (same_new nr)) (.tup' (.inl (.inl (by rw [hv_out fun z => hd3 r z nr]; exact upd_same))) (das_new nr (das_cut all))) hk3.2⟩)
    | str z => exact .inr (.inr ⟨z, hv3.str_eq, hk3.1, a _ _ _ s13 m3 (.str _) hk3.2⟩)
    | _ => exact hk3.elim, ax.step (s1.trans m1 s2) m2⟩, ax.step s1 m1⟩, ax⟩
theorem xSlF {p2 : Pos} {lo hi : Option Expr} (hx : PE X x (tPW S E wx)) (hl : PO X lo (tPO S E wl)) (hh : PO X hi (tPO S E wh)) (hK : X.K = S.K := by rfl) : PE X (.Subscript x (.Slice lo hi none p2) pos) (tPF S E (wSl gSlL wx wl wh)) :=
  peTo (pe_slice sl_list hx hl hh) fun σ H Q ⟨M, A, L, δ, k, e, f, hw, a, ax⟩ =>
  ⟨M, A, L, δ, _, e, f, hw, fun v d H1 s1 m1 hv hk => ⟨M, A, L, δ, _, e, f.step s1 m1, hk, fun o1 H2 s2 m2 hk2 => ⟨M, A, L, δ, _, e, f.step (s1.trans m1 s2) m2, hk2, fun o2 H3 s3 m3 hk3 => by
    have s13 := (s1.trans m1 s2).trans m2 s3
    have hv3 := (hv.step s2 f.mA f.dis).step s3 f.mA f.dis
    rw [hK]
    cases d with
    | lst l =>
      obtain ⟨p, vs, rfl, sq, all⟩ := hv3.list
      exact ⟨p, vs, rfl, .inl (.inl sq), fun r nr => a r _ _ _ (stp_free s13 m3 nr) (s13.trans m3 (.of (same_new nr))) (m3.same (same_new nr)) upd_same (((das_cut all).same (hv_more nr)).same (Go.hv (Go.of (same_new nr)))) hk3⟩
    | _ => exact hk3.elim, ax.step (s1.trans m1 s2) m2⟩, ax.step s1 m1⟩, ax⟩
theorem xNeg (h : PE X x (tPW S E wa)) : PE X (.UnaryOp .USub x pos) (tP S E (wUn gNeg wa)) := peTo (pe_un un_neg h) fun σ H Q ⟨M, A, L, δ, k, e, f, hw, a, ax⟩ =>
  ⟨M, A, L, δ, _, e, f, hw, fun v d H1 s1 m1 hv hk => by
    cases d with
    | int i => exact ⟨i, hv.int_eq, a _ _ _ s1 m1 (.int _) hk⟩
    | _ => exact hk.elim, ax⟩
end
end LW

set_option Elab.async false
set_option linter.all false
set_option maxRecDepth 100000
set_option maxHeartbeats 4000100
/-! for k, x in enumerate(xs, start=n), xs a list -/
namespace LW
open L2 PySem.Spec PyProof.Rows PySem
section
variable {M : Model} {A : Around} {E : Value → Shared →
      Prop} {s : Shared} {env : Env}
theorem callWith_tyB {pos : Pos} {T : String} {first : List Value} {args : List (Bool × Sem Value)} {keywords : List (Option Str × Sem Value)} {Q : Value → Shared → Prop}
    (hplain : args.any (·.1) = false) (hkw : keywords.any
          (·.1.isNone) = false)
    (h : wpAny M A (evalArgs (.type T) true args keywords) (fun a s₁ => wpAny M A (call (.type T) (first ++ a.pos) a.kw) Q E s₁) E s) :
    wpAny M A (callWith pos (.type T) first args keywords) Q E s := by
  unfold callWith
  refine wpAny_bind (wpAny_holding (wpAny_mono h (fun a t₁ w₁ => wpAny_bind (wpAny_standAt ?_)) fun _ _ x => x))
  simp only [hplain, hkw,
        Bool.or_false]
  refine wpAny_bind
        (wpAny_pure ?_)
  exact wpAny_bind (wpAny_mono w₁ (fun r t₂ wr => wpAny_bind (wpAny_holding (wpAny_point (wpAny_pure wr)))) fun _ _ x => x)
theorem callWith_tyK {pos : Pos} {T : String} {e : Expr} {rest : List Expr} {kws : List Keyword} {Q : Value → Shared → Prop}
    (h : wpAny M A (spliced (backTo pos (starEach (e :: rest) env))) (fun vs s₁ => wpAny M A (evalAll
          ((backToKw pos (keywordEach kws env)).map (·.2)))
      (fun kvs s₂ => wpAny M A (call (.type T) vs (((backToKw pos (keywordEach kws env)).filterMap (·.1)).zip kvs)) Q E s₂) E s₁) E s)
    (he : backTo pos (starEach (e :: rest) env) = (false, eval e env) :: backTo pos (starEach rest env))
    (hplain : (backTo pos (starEach (e :: rest) env)).any (·.1) = false)
    (hall : (backToKw pos (keywordEach kws env)).all
          (·.1.isSome) = true)
    (hkw : (backToKw pos (keywordEach kws env)).any (·.1.isNone) = false) :
    wpAny M A (callWith pos (.type T) [] (backTo pos (starEach (e :: rest) env)) (backToKw pos (keywordEach kws env))) Q E s := by
  refine callWith_tyB hplain hkw ?_
  rw [he] at h ⊢
  exact PyProof.Rows.evalArgs_kwB hall h
end
/-- the list at a at each turn, each item in a new pair with the count from n on -/
def Ites (K : PySem.W.Frag) (a : Addr) (n : Int) : It :=
  ⟨fun i H => ∃ (xs : List V) (x : V), SqL K H a xs ∧ xs[i]? = some x,
   fun i H v H' => ∃ T x, v = .ref T ∧ H T = none ∧ H' = upd H T (.tup [.int (n + (i : Nat)), x]) ∧ ∀ xs, SqL K H a xs → xs[i]? = some x,
   fun i H => ∃ xs : List V, SqL K H a xs ∧ xs.length ≤ i⟩
theorem turn_enumS {P : Program} {w : World} {K : PySem.W.Frag} {elts : List Expr} {kk : Nat} {tpos : Pos} (a e it : Addr) (n : Int) :
    Turn P w K (.Tuple elts kk tpos) (Ites K a n) [e, it] e (fun i h => (∃ old, IsEnum h e it (n + ((i : Nat) : Int)) old) ∧ h.IsListIter it a i ∧ e ≠ it) where
  mem := by simp
  obj := by
    rintro i h ⟨⟨old, he⟩, ⟨o, ho, hc, hd⟩, _⟩ b hb
    rcases List.mem_cons.mp
          hb with z | z
    · subst z; exact ⟨_, he, fun v q => nomatch q⟩
    · rw [List.mem_singleton] at z
      subst z
      exact ⟨o, ho, fun v q => by rw [hd] at q; cases q⟩
  keep := by
    rintro i h h' ⟨⟨old, he⟩, hi, hne⟩ k
    exact ⟨⟨old, k e (by simp) _ he⟩, hi.at fun o q => k it (by simp) o q, hne⟩
  item := by
    intro X hP hw hK hc i pins s σ
          H E I hf st hg
    subst hP hw hK
    obtain ⟨⟨old, he⟩, hit,
          hne⟩ := st
    obtain ⟨xs, x, hq, hx⟩ := hg
    obtain ⟨its, rv, p, hz⟩
          := I.list hq
    have tp : s.heap.IsList a its.toArray := p.isList
    obtain ⟨u, hu, ru⟩ :=
          rv.get hx
    have elt : e < s.heap.objs.size := Heap.lt_size he
    have ilt : it < s.heap.objs.size := by obtain ⟨_, q, _⟩ := hit; exact Heap.lt_size q
    have nai : a ≠ it := by
      intro z
      subst z
      obtain ⟨o1, g1, c1, _⟩ := hit
      obtain ⟨o2, g2, c2, _⟩ := tp
      rw [g1] at g2
      cases g2
      rw [c1] at c2
      exact absurd (Value.type.inj c2) (by decide)
    have nae : e ≠ a := by
      intro z
      subst z
      obtain ⟨o2, g2, c2, _⟩ := tp
      have g1 := he
      unfold IsEnum at g1
      rw [g1] at g2
      cases g2
      exact absurd (Value.type.inj c2) (by decide)
    have ilen : i < its.toArray.size := by
      have := (List.getElem?_eq_some_iff.mp hu).1
      simpa using this
    have dr := Draws.list (prog := X.prog) (w := X.w) (A := X.A.in1) (I.ok.hd hc) it a nai its.toArray
    refine wpAny_pyNext_enum_itemC dr he ⟨hit, tp⟩ ilen hne (by simp [hne, nae]) ?_
    intro y h' tk hy out st' newT size' kept
    have ey : y = u := by
      have : its.toArray[i]? = some u := by simpa using hu
      exact Option.some.inj (hy.symm.trans this)
    subst ey
    refine ⟨_, rfl, wpAny_letOwnedTupleGo_enum (s := { s with heap := h', toks := tk + 1 }) out ?_⟩
    intro h2 he2 sb
    have nT : h2.get? s.heap.objs.size = some { cls := .type "tuple", data := .seq #[.int (n + (i : Nat)) tk, y] } := (sb.2 _ (Nat.ne_of_gt elt)).trans newT
    have ob : ObjOk X.prog X.w (upd H s.heap.objs.size (.tup [.int (n + (i : Nat)), x])) h2 s.heap.objs.size (.tup [.int (n + (i : Nat)), x]) := by
      refine ⟨by show 2 ≤ sizeLine; decide, [.int (n + (i : Nat)) tk, y], .cons ⟨_, rfl⟩ (.cons ru .nil), ⟨_, nT, rfl, _, rfl⟩⟩
    have I1 : Inv X pins σ (upd H s.heap.objs.size (.tup [.int (n + (i : Nat)), x])) { s with heap := h2, toks := tk + 1 } := by
      refine I.turnedNew (ch := [e, it]) ?_ hf (Nat.le_refl _) ob
      intro b o hb q
      have b1 : b ≠ e := fun z => hb (by simp [z])
      have b2 : b ≠ it := fun z => hb (by simp [z])
      exact (sb.2 b b1).trans (kept b o b1 b2 q)
    refine ⟨.ref s.heap.objs.size, _, I1, rfl, ⟨_, x, rfl, I.hok.fresh (Nat.le_refl _), rfl, ?_⟩, ⟨⟨y, ?_⟩, st'.1.at fun o q => (sb.2 it (Ne.symm hne)).trans q, hne⟩, ?_⟩
    · intro ys hys
      rw [I.list_inj hys hq]
      exact hx
    · rw [show n + ((i + 1 : Nat) : Int) = n + (i : Int) + 1 by omega]
      exact he2
    · intro b hb
      have lt : b < s.heap.objs.size := by
        rcases List.mem_cons.mp
              hb with z | z
        · rw [z]; exact elt
        · rw [List.mem_singleton.mp z]; exact ilt
      rw [upd_ne (Nat.ne_of_lt lt)]
      exact (hf b hb).1
  done := by
    intro X hP hw hK hc i pins s σ
          H E I hf st hg
    subst hP hw hK
    obtain ⟨⟨old, he⟩, hit,
          hne⟩ := st
    obtain ⟨xs, hq, hx⟩ := hg
    obtain ⟨its, rv, p, hz⟩
          := I.list hq
    obtain ⟨f0, f1, f2, f3, f4, f5⟩ :=
          hf it (by simp)
    have ln := rv.length
    have none1 : its.toArray[i]? = none := by simp; omega
    have ty : s.TypeIs (.ref e) "enumerate" := ⟨_, he, rfl⟩
    unfold pyNext
    refine wpAny_bind
          (wpAny_attempt ?_)
    refine wpAny_callSpecial?_slot (name := Str.ofString "__next__") ty F.slot_enumerate_next ?_
    refine wpAny_call_entry F.slot_enumerate_next ty F.entry_enumerate_next ?_ (F.args_enumerate_next_1 _)
    show wpAny _ _ (field (.ref e)
          2 >>= _) _ _ _
    refine wpAny_bind ?_
    refine wpAny_field he rfl (x := .ref it) rfl ?_
    refine wpAny_bind ?_
    refine wpAny_nextOf_list_end (I.ok.hd hc) hit p.isList none1 ?_
    rintro h' x eb ⟨o, ho, hcl⟩
    refine wpAny_bind (wpAny_isInstance (T := "StopIteration") (b := true) ⟨o, ho, hcl⟩ isSubtype_stop ?_)
    refine wpAny_pure ⟨rfl, ?_⟩
    exact I.turned (t' := s.toks) (fun b o hb q => eb b o hb q) f0 f1 f3 f4 f5
  self := by
    rintro A i s Q E ⟨⟨_, he⟩, _⟩ h
    exact wpAny_pyIter_enum he h
def iEnumS (K : PySem.W.Frag) (ta tk : TA) : TI := fun σ H R => ta σ H fun vs H1 => tk σ H1 fun zs H2 => ∃ a xs n, vs = [.ref a] ∧ zs = [.int n] ∧ -(2 ^ 63) ≤ n ∧ n < 2 ^ 63 ∧ SqL K H2 a xs ∧ R (Ites K a n) H2
theorem pi_enumS {X : Cx} {e : Expr} {kws : List Keyword} {ta tk : TA} {p pos tpos : Pos} {elts : List Expr} {kk : Nat} (hg : Gl X "enumerate") (hm : X.mg "enumerate" = none) (ha : PA X [e] ta) (hk : PK X kws tk)
    (he : backTo pos (starEach [e] X.env) = (false, eval e X.env) :: backTo pos (starEach [] X.env) := by rfl) (hpl : (backTo pos (starEach [e] X.env)).any (·.1) = false := by rfl)
    (hall : (backToKw pos (keywordEach kws X.env)).all (·.1.isSome) = true := by rfl) (hnone : (backToKw pos (keywordEach kws X.env)).any (·.1.isNone) = false := by rfl)
    (hks : (backToKw pos (keywordEach kws X.env)).filterMap (·.1) = [Str.ofString "start"] := by rfl) : PI X (.Tuple elts kk tpos) (.Call (.Name "enumerate" p) [e] kws pos) (iEnumS X.K ta tk) := by
  constructor
  intro pins s σ H R I h
  refine wpAny_Call_Name_kw (ld_blt I hg hm boot_enumerate ?_)
  refine callWith_tyK (thn (ha.run pos pins s σ H _ I h) ?_) he hpl hall hnone
  rintro us s1 ⟨vs, H1, I1, r1, q1⟩
  refine thn (hk.run pos pins s1 σ H1 _ I1 q1) ?_
  rintro ws s2 ⟨zs, H2, I2, r2, a, xs, n, ex, ez, n0, n1, hq, q⟩
  subst ex
  subst ez
  rw [hks]
  obtain ⟨u, rfl, ru⟩
        := vals1 r1
  obtain rfl : u = Value.ref
        a := ru
  obtain ⟨v, rfl, rv'⟩ := vals1 r2
  obtain ⟨t, rfl⟩ := rv'
  obtain ⟨its, rv, tp, hz⟩ := I2.list hq
  refine enum_begins_start (begins_list a its.toArray) tp.isList n0 n1 ?_
  intro h' he' hit hsz hk'
  refine wpAny_pyIter_enum he' ?_
  refine ⟨s2.heap.objs.size + 1, [s2.heap.objs.size + 1, s2.heap.objs.size], _, _, H2, rfl, I2.kept (t' := s2.toks) hk', turn_enumS a (s2.heap.objs.size + 1) s2.heap.objs.size n, ⟨⟨.none, ?_⟩, ⟨_, hit, rfl, rfl⟩, Nat.succ_ne_self _⟩, ?_, q⟩
  · rw [show n + ((0 : Nat) : Int) = n by omega]
    exact he'
  intro b hb
  have le : s2.heap.objs.size ≤ b := by
    rcases List.mem_cons.mp
          hb with z | z
    · rw [z]; exact Nat.le_succ _
    · rw [List.mem_singleton.mp z]; exact Nat.le_refl _
  exact I2.fpOk le (I2.hok.fresh le)
theorem for_enumS {K : PySem.W.Frag} {a : Addr} {n : Int} {xs : List V} {g : TG} {tb : TS} {D : Ends} {σ : L2.St} {H : Hp} (Pv : Nat → L2.St → Hp → Prop) (h0 : Pv 0 σ H) (hl : ∀ i σ H, i ≤ xs.length → Pv i σ H → SqL K H a xs)
    (hs : ∀ i x σ H T, xs[i]? = some x → Pv i σ H → H T = none → g (.ref T) σ (upd H T (.tup [.int (n + (i : Nat)), x])) fun σ2 H2 => tb { D with nx := Pv (i + 1), ct := Pv (i + 1), bk := D.nx } σ2 H2) (hd : ∀ σ H, Pv xs.length σ H → D.nx σ H) :
    ∃ W : Nat → Nat → L2.St → Hp → Prop, (∃ m, W 0 m σ H)
          ∧ ∀ i m σ H, W i m σ H →
      ((Ites K a n).stop i H ∧ D.nx σ H) ∨ ((Ites K a n).go i H ∧ ∃ N : L2.St → Hp → Prop, (∀ σ' H', N σ' H' → ∃ m', m' < m ∧ W (i + 1) m' σ' H') ∧
        ∀ x H', (Ites K a n).yld i H x H' → g x σ H' fun σ2 H2 => tb { D with nx := N, ct := N, bk := D.nx } σ2 H2) := by
  refine ⟨fun i m σ H => m = xs.length - i ∧ i ≤ xs.length ∧ Pv i σ H,
        ⟨xs.length, rfl, Nat.zero_le _, h0⟩, ?_⟩
  rintro i m σ H ⟨rfl, hi, p⟩
  have sq := hl i σ H hi p
  by_cases lt : i < xs.length
  · refine .inr ⟨⟨xs, xs[i], sq, List.getElem?_eq_getElem lt⟩, Pv (i + 1), fun σ' H' p' => ⟨xs.length - (i + 1), by omega, rfl, lt, p'⟩, ?_⟩
    rintro y H' ⟨T, x, rfl, nT, rfl, look⟩
    exact hs i x σ H T (look _ sq) p nT
  · have e : i = xs.length
        := by omega
    subst e
    exact .inl ⟨⟨xs, sq, Nat.le_refl _⟩, hd σ H p⟩
end LW

set_option Elab.async false
set_option linter.all false
set_option maxRecDepth 100000
set_option maxHeartbeats 4000100
/-! targets, walks, comprehensions, told of plain data -/
namespace LW
open L2 PySem.Spec PyProof.Rows PySem
/-! ### targets: names and tuples of them -/
abbrev WG := Dt → De → (De → Prop) → Prop
def wgN (i : Nat) : WG := fun d δ k => k (δ.set i (some (.val d)))
abbrev WGs := List Dt → De → (De → Prop) → Prop
def wgNil : WGs := fun l δ k => l = [] ∧ k δ
def wgCons (g : WG) (r : WGs) : WGs := fun l δ k => match l with | d :: ds => g d δ fun δ' => r ds δ' k | [] => False
def wgT (n : Nat) (g : WGs) : WG := fun d δ k => match d with | .tup l => l.length = n ∧ g l δ k | _ => False
/-- only the slots of is may be others now -/
def SlotsBut (is : List Nat) (σ σ' : L2.St) : Prop := σ'.length = σ.length ∧ ∀ j, j ∉ is → σ'[j]? = σ[j]?
def tPG (S : Su) (is : List Nat) (w : WG) : TG := fun v σ H Q => ∃ M A L δ d k, Fr S M A L σ δ H ∧ Da S M (hv (L ++ A) H) v d ∧ w d δ k ∧ ∀ σ' δ', Fr S M A L σ' δ' H → SlotsBut is σ σ' → k δ' → Q σ' H
def tPGs (S : Su) (is : List Nat) (w : WGs) : TGs := fun vs σ H Q => ∃ M A L δ ds k, Fr S M A L σ δ H ∧ Das S M (hv (L ++ A) H) vs ds ∧ w ds δ k ∧ ∀ σ' δ', Fr S M A L σ' δ' H → SlotsBut is σ σ' → k δ' → Q σ' H
theorem pgsTo {X : Cx} {e : List Expr} {t t' : TGs} (h : PGs X e t) (m : ∀ v σ H Q, t' v σ H Q → t v σ H Q) : PGs X e t' := ⟨fun pins s σ H v u Q I r q => h.run pins s σ H v u Q I r (m v σ H Q q)⟩
section
variable {X : Cx} {S : Su} {i n : Nat} {is js : List Nat} {x : Expr} {xs : List Expr} {g : WG} {gs : WGs} {pos : Pos}
theorem SlotsBut.refl {σ : L2.St} : SlotsBut is σ σ := ⟨rfl, fun _ _ => rfl⟩
theorem SlotsBut.trans {σ σ1 σ2 : L2.St} (a : SlotsBut is σ σ1) (b : SlotsBut js σ1 σ2) : SlotsBut (is ++ js) σ σ2 := ⟨b.1.trans a.1, fun j h => (b.2 j fun z => h (List.mem_append_right _ z)).trans (a.2 j fun z => h (List.mem_append_left _ z))⟩
theorem xgN (h : PG X x (gName i)) : PG X x (tPG S [i] (wgN i)) := pgTo h fun v σ H Q ⟨M, A, L, δ, d, k, f, hv, hw, a⟩ =>
  a _ _ (f.set i hv) ⟨by rw [List.length_set], fun j hj => List.getElem?_set_ne fun z => hj (by rw [z]; exact List.mem_singleton.mpr rfl)⟩ hw
theorem xgNil : PGs X [] (tPGs S [] wgNil) := pgsTo pgs_nil fun v σ H Q ⟨M, A, L, δ, ds, k, f, hv, hw, a⟩ => by
  obtain ⟨rfl, hk⟩ := hw
  exact ⟨hv.of_nil, a _ _ f .refl hk⟩
theorem xgCons (h1 : PG X x (tPG S is g)) (h2 : PGs X xs (tPGs S js gs)) (hs : (assignEach (x :: xs) X.env).map (·.2) = assign x X.env :: (assignEach xs X.env).map (·.2) := by rfl) : PGs X (x :: xs) (tPGs S (is ++ js) (wgCons g gs)) :=
  pgsTo (pgs_cons h1 h2 hs) fun v σ H Q ⟨M, A, L, δ, ds, k, f, hv, hw, a⟩ => by
  cases ds with
  | nil => exact hw.elim
  | cons d ds =>
    obtain ⟨u, us, rfl, hu, hus⟩ := hv.of_cons
    exact ⟨u, us, rfl, M, A, L, δ, d, _, f, hu, hw, fun σ1 δ1 f1 s1 hk => ⟨M, A, L, δ1, ds, k, f1, hus, hk, fun σ2 δ2 f2 s2 hk2 => a _ _ f2 (s1.trans s2) hk2⟩⟩
theorem xgT {k : Nat} (hc : X.calm = true) (h : PGs X xs (tPGs S is gs)) (hn : (assignEach xs X.env).length = n := by rfl) (hst : (assignEach xs X.env).findIdx? (·.1) = none := by rfl) (hK : X.K = S.K := by rfl) : PG X (.Tuple xs k pos) (tPG S is (wgT n gs)) :=
  pgTo (pg_tup hc h hn hst) fun v σ H Q ⟨M, A, L, δ, d, k, f, hv, hw, a⟩ => by
  cases d with
  | tup l =>
    obtain ⟨p, vs, rfl, sq, all⟩ := hv.tuple
    rw [hK]
    exact ⟨p, vs, rfl, sqT_full sq, by rw [all.len]; exact hw.1, M, A, L, δ, l, k, f, all, hw.2, a⟩
  | _ => exact hw.elim
end
/-! ### walks -/
structure ItC (S : Su) (M : Mu) (J : It) (ds : List Dt) (G : List Addr → Hp → Prop) : Prop where
  mono : ∀ B B' H H', Stp M [] H [] H' → Same (hv B H) (hv B' H') → G B H → G B' H'
  goes : ∀ i B H, i < ds.length → G B H → J.go i H
  stops : ∀ B H, G B H → J.stop ds.length H
  yields : ∀ i B H x H' d, ds[i]? = some d → G B H → Hd B H → J.yld i H x H' → Same H H' ∧ Da S M (hv B H') x d
structure ItS (S : Su) (M : Mu) (J : It) (ds : List Dt) (G : List Addr → Hp → Prop) : Prop where
  mono : ∀ B B' H H', Same (hv B H) (hv B' H') → G B H → G B' H'
  goes : ∀ i B H, i < ds.length → G B H → J.go i H
  stops : ∀ B H, G B H → J.stop ds.length H
  yields : ∀ i B H x H' d, ds[i]? = some d → G B H → Hd B H → J.yld i H x H' → Same H H' ∧ Da S M (hv B H') x d
theorem ItS.c {S : Su} {M : Mu} {J : It} {ds : List Dt} {G : List Addr → Hp → Prop} (h : ItS S M J ds G) : ItC S M J ds G := ⟨fun B B' H H' _ => h.mono B B' H H', h.goes, h.stops, h.yields⟩
abbrev WI := De → (List Dt → Prop) → (Er → Prop) → Prop
def tPI (S : Su) (E : XK) (w : WI) : TI := fun σ H R => ∃ M A L δ k e, Fr S M A L σ δ H ∧ w δ k e ∧ (∀ J ds G H', Stp M [] H [] H' → MOk S M H' → ItS S M J ds G → G (L ++ A) H' → k ds → R J H') ∧ AftX S M A H e E
def tPIC (S : Su) (E : XK) (w : WI) : TI := fun σ H R => ∃ M A L δ k e, Fr S M A L σ δ H ∧ w δ k e ∧ (∀ J ds G H', Stp M [] H [] H' → MOk S M H' → ItC S M J ds G → G (L ++ A) H' → k ds → R J H') ∧ AftX S M A H e E
theorem piTo {X : Cx} {tg e : Expr} {t t' : TI} (h : PI X tg e t) (m : ∀ σ H Q, t' σ H Q → t σ H Q) : PI X tg e t' := ⟨fun pins s σ H Q I q => h.run pins s σ H Q I (m σ H Q q)⟩
theorem xic {X : Cx} {S : Su} {E : XK} {tg e : Expr} {w : WI} (h : PI X tg e (tPI S E w)) : PI X tg e (tPIC S E w) := piTo h fun σ H R ⟨M, A, L, δ, k, e, f, hw, a, ax⟩ =>
  ⟨M, A, L, δ, k, e, f, hw, fun J ds G H' s m it g hk => a J ds G H' s m it.c g hk, ax⟩
/-- a list, a tuple, a text -/
def signs (x : Str) : List Dt := x.cps.toList.map fun c => .str ⟨#[c]⟩
def wIt (w : WE) : WI := fun δ k e => w δ (fun d => match d with | .lst l => k l | .tup l => k l | .str x => k (signs x) | _ => False) e
def rgI (lo : Int) (n : Nat) : List Dt := (List.range n).map fun i => .int (lo + (i : Nat))
def wRg1 (w : WE) : WI := fun δ k e => w δ (fun d => match d with | .int n => -(2 ^ 62) ≤ n ∧ n < 2 ^ 62 ∧ k (rgI 0 n.toNat) | _ => False) e
def wRg2 (wa wb : WE) : WI := fun δ k e => wa δ (fun x => wb δ (fun y => match x, y with | .int i, .int j => (-(2 ^ 62) ≤ i ∧ i < 2 ^ 62 ∧ -(2 ^ 62) ≤ j ∧ j < 2 ^ 62) ∧ k (rgI i (j - i).toNat) | _, _ => False) e) e
def intsC (lo c : Int) (n : Nat) : List Dt := (List.range n).map fun i => .int (lo + (i : Nat) * c)
def wRg3 (wa wb wc : WE) : WI := fun δ k e => wa δ (fun x => wb δ (fun y => wc δ (fun z => match x, y, z with | .int i, .int j, .int c => ∃ n, RgC i j c n ∧ k (intsC i c n) | _, _, _ => False) e) e) e
/-- enumerate, zip, reversed -/
def numbered (s : Int) : List Dt → List Dt
  | [] => []
  | d :: ds => .tup [.int s, d] :: numbered (s + 1) ds
def wEnum (w : WE) : WI := fun δ k e => w δ (fun d => match d with | .lst l => k (numbered 0 l) | .tup l => k (numbered 0 l) | _ => False) e
def zipped (l r : List Dt) : List Dt := List.zipWith (fun x y => .tup [x, y]) l r
def wZip (wa wb : WE) : WI := fun δ k e => wa δ (fun x => wb δ (fun y => match x, y with | .lst l, .lst r => k (zipped l r) | .tup l, .tup r => k (zipped l r) | _, _ => False) e) e
def wRev (w : WE) : WI := fun δ k e => w δ (fun d => match d with | .lst l => k l.reverse | .tup l => k l.reverse | _ => False) e
theorem numbered_get : ∀ (l : List Dt) (s : Int) (i : Nat), (numbered s l)[i]? = (l[i]?).map fun d => .tup [.int (s + (i : Nat)), d]
  | [], s, i => by simp [numbered]
  | d :: ds, s, 0 => by simp [numbered]
  | d :: ds, s, i + 1 => by
    rw [numbered, List.getElem?_cons_succ, List.getElem?_cons_succ, numbered_get ds (s + 1) i]
    cases ds[i]? with
    | none => rfl
    | some x => simp; omega
theorem numbered_len (l : List Dt) (s : Int) : (numbered s l).length = l.length := by
  induction l generalizing
        s with
  | nil => rfl
  | cons d l ih => rw [numbered, List.length_cons, List.length_cons, ih]
section
variable {S : Su} {M : Mu} {L A : List Addr} {H : Hp} {v : V}
/-- a new pair -/
theorem pair_new {B : List Addr} {H : Hp} {T : Addr} {x y : V} {a b : Dt} (n : H T = none) (hd : Hd B H) (hx : Da S M (hv B H) x a) (hy : Da S M (hv B H) y b) : Same H (upd H T (.tup [x, y])) ∧ Da S M (hv B (upd H T (.tup [x, y]))) (.ref T) (.tup [a, b]) := by
  have nB : T ∉ B := fun z => hd T z n
  have hs : Same (hv B H) (hv B (upd H T (.tup [x, y]))) := Go.hv (Go.of (same_new n))
  exact ⟨same_new n, .tup' (.inl (.inl (by rw [hv_out nB]; exact upd_same))) (.cons (hx.same hs) (.cons (hy.same hs) .nil))⟩
theorem itS_list {a : Addr} {ds : List Dt} (vs : List V) (ln : vs.length = ds.length) : ItS S M (Itl S.K a) ds (fun B H => (hv B H) a = some (.lst vs) ∧ Das S M (hv B H) vs ds) :=
  ⟨fun B B' H H' s h => ⟨s _ _ h.1, h.2.same s⟩, fun i B H hi h => walk_list.goes i H (by rw [ln]; exact hi) (.inl (.inl (hv_le _ _ h.1))), fun B H h => by rw [← ln]; exact walk_list.stops H (.inl (.inl (hv_le _ _ h.1))),
    fun i B H x H' d e h hd y => by
      have hi : i < vs.length := by rw [ln]; exact (List.getElem?_eq_some_iff.mp e).1
      obtain ⟨rfl, e2⟩ := walk_list.yields i H x H' hi (.inl (.inl (hv_le _ _ h.1))) y
      exact ⟨Same.refl _, h.2.all i x d e2 e⟩⟩
theorem itC_list {a : Addr} {ds : List Dt} (vs : List V) (ln : vs.length = ds.length) (na : a ∉ M.map Prod.fst) : ItC S M (Itl S.K a) ds (fun B H => H a = some (.lst vs) ∧ Das S M (hv B H) vs ds) :=
  ⟨fun B B' H H' st s h => ⟨st.keep a _ na (by simp) h.1, h.2.same s⟩, fun i B H hi h => walk_list.goes i H (by rw [ln]; exact hi) (.inl (.inl h.1)), fun B H h => by rw [← ln]; exact walk_list.stops H (.inl (.inl h.1)),
    fun i B H x H' d e h hd y => by
      have hi : i < vs.length := by rw [ln]; exact (List.getElem?_eq_some_iff.mp e).1
      obtain ⟨rfl, e2⟩ := walk_list.yields i H x H' hi (.inl (.inl h.1)) y
      exact ⟨Same.refl _, h.2.all i x d e2 e⟩⟩
theorem itS_tup {a : Addr} {ds : List Dt} (vs : List V) (ln : vs.length = ds.length) : ItS S M (Itt S.K a) ds (fun B H => SqT S.K (hv B H) a vs ∧ Das S M (hv B H) vs ds) :=
  ⟨fun B B' H H' s h => ⟨seqT_same s h.1, h.2.same s⟩, fun i B H hi h => walk_tup.goes i H (by rw [ln]; exact hi) (sqT_full h.1), fun B H h => by rw [← ln]; exact walk_tup.stops H (sqT_full h.1),
    fun i B H x H' d e h hd y => by
      have hi : i < vs.length := by rw [ln]; exact (List.getElem?_eq_some_iff.mp e).1
      obtain ⟨rfl, e2⟩ := walk_tup.yields i H x H' hi (sqT_full h.1) y
      exact ⟨Same.refl _, h.2.all i x d e2 e⟩⟩
theorem itS_str {z : Str} : ItS S M (Its z) (signs z) (fun _ _ => True) :=
  ⟨fun _ _ _ _ _ _ => trivial, fun i B H hi _ => walk_str.goes i H (by simpa [signs] using hi) trivial, fun B H _ => by
    have : (signs z).length = z.cps.size := by simp [signs]
    rw [this]; exact walk_str.stops H trivial,
    fun i B H x H' d e _ hd y => by
      have hi : i < z.cps.size := by have := (List.getElem?_eq_some_iff.mp e).1; simpa [signs] using this
      obtain ⟨rfl, c, e1, rfl⟩ := walk_str.yields i H x H' hi trivial y
      unfold signs at e
      obtain ⟨c', e2, rfl⟩ := some_map e
      have : c = c' := by
        rw [Array.getElem?_toList] at e2
        rw [e1] at e2
        exact Option.some.inj e2
      rw [this]
      exact ⟨Same.refl _, .str _⟩⟩
theorem itS_range {lo : Int} {n : Nat} : ItS S M (Itr lo n) (rgI lo n) (fun _ _ => True) := by
  have ln : (rgI lo n).length = n := by simp [rgI]
  refine ⟨fun _ _ _ _ _ _ => trivial, fun i B H hi _ => walk_range.goes i H (by rw [← ln]; exact hi) trivial, fun B H _ => by rw [ln]; exact walk_range.stops H trivial, fun i B H x H' d e _ hd y => ?_⟩
  have hi : i < n := by rw [← ln]; exact (List.getElem?_eq_some_iff.mp e).1
  obtain ⟨rfl, rfl⟩ := walk_range.yields i H x H' hi trivial y
  unfold rgI at e
  obtain ⟨j, e2, rfl⟩ := some_map e
  rw [List.getElem?_range hi] at e2
  cases e2
  exact ⟨Same.refl _, .int _⟩
theorem itS_rangeC {lo c : Int} {n : Nat} : ItS S M (Itc lo c n) (intsC lo c n) (fun _ _ => True) := by
  have ln : (intsC lo c n).length = n := by simp [intsC]
  refine ⟨fun _ _ _ _ _ _ => trivial, fun i B H hi _ => walk_rangeC.goes i H (by rw [← ln]; exact hi) trivial, fun B H _ => by rw [ln]; exact walk_rangeC.stops H trivial, fun i B H x H' d e _ hd y => ?_⟩
  have hi : i < n := by rw [← ln]; exact (List.getElem?_eq_some_iff.mp e).1
  obtain ⟨rfl, rfl⟩ := walk_rangeC.yields i H x H' hi trivial y
  unfold intsC at e
  obtain ⟨j, e2, rfl⟩ := some_map e
  rw [List.getElem?_range hi] at e2
  cases e2
  exact ⟨Same.refl _, .int _⟩
theorem num_of {ds : List Dt} {i : Nat} {d : Dt} (e : (numbered 0 ds)[i]? = some d) : ∃ b, ds[i]? = some b ∧ d = .tup [.int (i : Nat), b] := by
  rw [numbered_get] at e
  cases q : ds[i]? with
  | none => rw [q]
        at e; cases e
  | some b =>
    rw [q] at e
    simp at e
    exact ⟨b, rfl, e.symm⟩
theorem itS_enum {a : Addr} {ds : List Dt} (vs : List V) (ln : vs.length = ds.length) : ItS S M (Ite S.K a) (numbered 0 ds) (fun B H => (hv B H) a = some (.lst vs) ∧ Das S M (hv B H) vs ds) :=
  ⟨fun B B' H H' s h => ⟨s _ _ h.1, h.2.same s⟩, fun i B H hi h => (walk_enum (xs := vs)).goes i H (by rw [ln, ← numbered_len ds 0]; exact hi) (.inl (.inl (hv_le _ _ h.1))), fun B H h => by rw [numbered_len, ← ln]; exact (walk_enum (xs := vs)).stops H (.inl (.inl (hv_le _ _ h.1))),
    fun i B H x H' d e h hd y => by
      obtain ⟨b, eb, rfl⟩ := num_of e
      have hi : i < vs.length := by rw [ln]; exact (List.getElem?_eq_some_iff.mp eb).1
      obtain ⟨T, x1, x2, rfl, nT, rfl, e1, e2⟩ := (walk_enum (xs := vs)).yields i H x H' hi (.inl (.inl (hv_le _ _ h.1))) y
      cases e1
      exact pair_new nT hd (.int _) (h.2.all i x2 b e2 eb)⟩
theorem itC_enum {a : Addr} {ds : List Dt} (vs : List V) (ln : vs.length = ds.length) (na : a ∉ M.map Prod.fst) : ItC S M (Ite S.K a) (numbered 0 ds) (fun B H => H a = some (.lst vs) ∧ Das S M (hv B H) vs ds) :=
  ⟨fun B B' H H' st s h => ⟨st.keep a _ na (by simp) h.1, h.2.same s⟩, fun i B H hi h => (walk_enum (xs := vs)).goes i H (by rw [ln, ← numbered_len ds 0]; exact hi) (.inl (.inl h.1)), fun B H h => by rw [numbered_len, ← ln]; exact (walk_enum (xs := vs)).stops H (.inl (.inl h.1)),
    fun i B H x H' d e h hd y => by
      obtain ⟨b, eb, rfl⟩ := num_of e
      have hi : i < vs.length := by rw [ln]; exact (List.getElem?_eq_some_iff.mp eb).1
      obtain ⟨T, x1, x2, rfl, nT, rfl, e1, e2⟩ := (walk_enum (xs := vs)).yields i H x H' hi (.inl (.inl h.1)) y
      cases e1
      exact pair_new nT hd (.int _) (h.2.all i x2 b e2 eb)⟩
theorem itS_enumT {a : Addr} {ds : List Dt} (vs : List V) (ln : vs.length = ds.length) : ItS S M (Itet S.K a) (numbered 0 ds) (fun B H => SqT S.K (hv B H) a vs ∧ Das S M (hv B H) vs ds) :=
  ⟨fun B B' H H' s h => ⟨seqT_same s h.1, h.2.same s⟩, fun i B H hi h => by
      have hi' : i < vs.length := by rw [ln, ← numbered_len ds 0]; exact hi
      exact ⟨vs, vs[i], sqT_full h.1, by simp [hi']⟩, fun B H h => ⟨vs, sqT_full h.1, by rw [numbered_len, ln]; exact Nat.le_refl _⟩,
    fun i B H x H' d e h hd y => by
      obtain ⟨b, eb, rfl⟩ := num_of e
      obtain ⟨T, x2, rfl, nT, rfl, e2⟩ := y
      exact pair_new nT hd (.int _) (h.2.all i x2 b (e2 vs (sqT_full h.1)) eb)⟩
theorem zip_of {ds es : List Dt} {i : Nat} {d : Dt} (e : (zipped ds es)[i]? = some d) : ∃ a b, ds[i]? = some a ∧ es[i]? = some b ∧ d = .tup [a, b] := by
  unfold zipped at e
  rw [List.getElem?_zipWith] at e
  cases q : ds[i]? with
  | none => rw [q]
        at e; cases e
  | some a =>
    cases q2 : es[i]? with
    | none => rw [q, q2] at e; cases e
    | some b => rw [q, q2] at e; cases e; exact ⟨a, b, rfl, rfl, rfl⟩
theorem itS_zip {a b : Addr} {ds es : List Dt} (vs ws : List V) (l1 : vs.length = ds.length) (l2 : ws.length = es.length) : ItS S M (Itz S.K a b) (zipped ds es) (fun B H => ((hv B H) a = some (.lst vs) ∧ Das S M (hv B H) vs ds) ∧ (hv B H) b = some (.lst ws) ∧ Das S M (hv B H) ws es) := by
  have ln : (zipped ds es).length = min vs.length ws.length := by unfold zipped; rw [List.length_zipWith, l1, l2]
  have w := walk_zip (K := S.K) (a := a) (b := b) (xs := vs) (ys := ws) ln
  refine ⟨fun B B' H H' s h => ⟨⟨s _ _ h.1.1, h.1.2.same s⟩, s _ _ h.2.1, h.2.2.same s⟩, fun i B H hi h => w.goes i H hi ⟨.inl (.inl (hv_le _ _ h.1.1)), .inl (.inl (hv_le _ _ h.2.1))⟩, fun B H h => w.stops H ⟨.inl (.inl (hv_le _ _ h.1.1)), .inl (.inl (hv_le _ _ h.2.1))⟩, fun i B H x H' d e h hd y => ?_⟩
  have hi : i < (zipped ds es).length := (List.getElem?_eq_some_iff.mp e).1
  obtain ⟨T, x1, x2, rfl, nT, rfl, e1, e2⟩ := w.yields i H x H' hi ⟨.inl (.inl (hv_le _ _ h.1.1)), .inl (.inl (hv_le _ _ h.2.1))⟩ y
  obtain ⟨p, q, ep, eq, rfl⟩ := zip_of e
  exact pair_new nT hd (h.1.2.all i x1 p e1 ep) (h.2.2.all i x2 q e2 eq)
theorem itS_zipT {a b : Addr} {ds es : List Dt} (vs ws : List V) (l1 : vs.length = ds.length) (l2 : ws.length = es.length) : ItS S M (RZ.ItzT S.K a b) (zipped ds es) (fun B H => (SqT S.K (hv B H) a vs ∧ Das S M (hv B H) vs ds) ∧ SqT S.K (hv B H) b ws ∧ Das S M (hv B H) ws es) := by
  have ln : (zipped ds es).length = min vs.length ws.length := by unfold zipped; rw [List.length_zipWith, l1, l2]
  refine ⟨fun B B' H H' s h => ⟨⟨seqT_same s h.1.1, h.1.2.same s⟩, seqT_same s h.2.1, h.2.2.same s⟩, fun i B H hi h => ?_, fun B H h => ?_, fun i B H x H' d e h hd y => ?_⟩
  · rw [ln] at hi
    have h1 : i < vs.length := by omega
    have h2 : i < ws.length := by omega
    exact ⟨vs, ws, vs[i], ws[i], sqT_full h.1.1, sqT_full h.2.1, by simp [h1], by simp [h2]⟩
  · exact ⟨vs, ws, sqT_full h.1.1, sqT_full h.2.1, by rw [ln]; omega⟩
  · obtain ⟨T, x1, x2, rfl, nT, rfl, e1, e2⟩ := y
    obtain ⟨p, q, ep, eq, rfl⟩ := zip_of e
    exact pair_new nT hd (h.1.2.all i x1 p (e1 vs (sqT_full h.1.1)) ep) (h.2.2.all i x2 q (e2 ws (sqT_full h.2.1)) eq)
theorem itS_rev {a : Addr} {ds : List Dt} (vs : List V) (ln : vs.length = ds.length) : ItS S M (Itv S.K a vs.length) ds.reverse (fun B H => (hv B H) a = some (.lst vs) ∧ Das S M (hv B H) vs ds) :=
  ⟨fun B B' H H' s h => ⟨s _ _ h.1, h.2.same s⟩, fun i B H hi h => walk_rev.goes i H (by rw [ln]; simpa using hi) (.inl (.inl (hv_le _ _ h.1))), fun B H h => by rw [List.length_reverse, ← ln]; exact walk_rev.stops H (.inl (.inl (hv_le _ _ h.1))),
    fun i B H x H' d e h hd y => by
      have hi : i < vs.length := by rw [ln]; have := (List.getElem?_eq_some_iff.mp e).1; simpa using this
      obtain ⟨rfl, e2⟩ := walk_rev.yields i H x H' hi (.inl (.inl (hv_le _ _ h.1))) y
      rw [List.getElem?_reverse (by rw [← ln]; exact hi), ← ln] at e
      exact ⟨Same.refl _, h.2.all _ x d e2 e⟩⟩
end
/-- what may be walked in a for: a list or tuple, at either the one walk or the other -/
def iSeq (K : PySem.W.Frag) (tl : TE) : TI := fun σ H R => tl σ H fun x H1 => (∃ a, x = .ref a ∧ (∃ xs, SqL K H1 a xs) ∧ R (Itl K a) H1) ∨ (∃ a, x = .ref a ∧ (∃ xs, SqT K H1 a xs) ∧ R (Itt K a) H1) ∨ ∃ z, x = .str z ∧ R (Its z) H1
section
variable {X : Cx} {tg : Expr}
theorem pi_seq {l : Expr} {tl : TE} (hl : PE X l tl) : PI X tg l (iSeq X.K tl) := by
  refine ⟨fun pins s σ H
        R I h => ?_⟩
  refine thn (hl.run pins s σ H _ I h) fun v s1
        ⟨x, H1, I1, r1, q1⟩ => ?_
  rcases q1 with ⟨a, e, ⟨xs, hq⟩, q⟩ | ⟨a, e, ⟨xs, hq⟩, q⟩ | ⟨z, e, q⟩
  · subst e
    cases r1
    obtain ⟨its, rv, p, hz⟩
          := I1.list hq
    refine wpAny_pyIter_list
          p.isList ?_
    refine ⟨s1.heap.objs.size, [s1.heap.objs.size], _, _, H1, rfl, I1.kept (t' := s1.toks) fun b o e => Heap.get?_push_of_some _ e, turn_list
          a _, ⟨_, Heap.get?_push_size _ rfl, rfl, rfl⟩, fun b hb => ?_, q⟩
    have e : b = s1.heap.objs.size :=
          by simpa using hb
    subst e
    exact I1.fpOk (Nat.le_refl _) (I1.hok.fresh
          (Nat.le_refl _))
  · subst e
    cases r1
    obtain ⟨its, rv, p, hz⟩ :=
          I1.tuple hq
    refine wpAny_pyIter_tuple (show s1.heap.IsTuple
          a its.toArray from p) ?_
    refine ⟨s1.heap.objs.size, [s1.heap.objs.size], _, _, H1, rfl, I1.kept (t' := s1.toks) fun b o e => Heap.get?_push_of_some _ e, turn_tuple
          a _, ⟨_, Heap.get?_push_size _ rfl, rfl, rfl⟩, fun b hb => ?_, q⟩
    have e : b = s1.heap.objs.size :=
          by simpa using hb
    subst e
    exact I1.fpOk (Nat.le_refl _) (I1.hok.fresh
          (Nat.le_refl _))
  · subst e
    obtain ⟨t, rfl⟩ := r1
    cases ha : z.cps.all (· < 128)
    · exact wpAny_pyIter_wide ha (pi_one (tk := s1.toks) I1 _ (turn_str _ z t "str_iterator" (.inr rfl)) ⟨_, Heap.get?_push_size _ rfl, rfl, rfl⟩ q)
    · exact wpAny_pyIter_ascii ha (pi_one (tk := s1.toks) I1 _ (turn_str _ z t "str_ascii_iterator" (.inl rfl)) ⟨_, Heap.get?_push_size _ rfl, rfl, rfl⟩ q)
end
section
variable {X : Cx} {S : Su} {E : XK} {tg x y z : Expr} {w wa wb wc : WE} {p pos : Pos}
theorem xIt (h : PE X x (tP S E w)) (hK : X.K = S.K := by rfl) : PI X tg x (tPI S E (wIt w)) := piTo (pi_seq h) fun σ H R ⟨M, A, L, δ, k, e, f, hw, a, ax⟩ =>
  ⟨M, A, L, δ, _, e, f, hw, fun v d H1 s1 m1 hv hk => by
    rw [hK]
    cases d with
    | lst l =>
      obtain ⟨q, vs, rfl, sq, all⟩ := hv.list
      exact .inl ⟨q, rfl, ⟨vs, .inl (.inl (hv_le _ _ sq))⟩, a _ _ _ H1 s1 m1 (itS_list vs all.len) ⟨sq, all⟩ hk⟩
    | tup l =>
      obtain ⟨q, vs, rfl, sq, all⟩ := hv.tuple
      exact .inr (.inl ⟨q, rfl, ⟨vs, sqT_full sq⟩, a _ _ _ H1 s1 m1 (itS_tup vs all.len) ⟨sq, all⟩ hk⟩)
    | str z => exact .inr (.inr ⟨z, hv.str_eq, a _ _ _ H1 s1 m1 itS_str trivial hk⟩)
    | _ => exact hk.elim, ax⟩
/-- in a comprehension a list of the frame's own too -/
theorem xItC (h : PE X x (tPW S E w)) (hK : X.K = S.K := by rfl) : PI X tg x (tPIC S E (wIt w)) := piTo (pi_seq h) fun σ H R ⟨M, A, L, δ, k, e, f, hw, a, ax⟩ =>
  ⟨M, A, L, δ, _, e, f, hw, fun v d H1 s1 m1 hv hk => by
    rw [hK]
    rcases hv with hv | ⟨q, vs, ds, rfl, rfl, qL, e1, hv⟩
    · cases d with
      | lst l =>
        obtain ⟨q, vs, rfl, sq, all⟩ := hv.list
        exact .inl ⟨q, rfl, ⟨vs, .inl (.inl (hv_le _ _ sq))⟩, a _ _ _ H1 s1 m1 (itS_list vs all.len).c ⟨sq, all⟩ hk⟩
      | tup l =>
        obtain ⟨q, vs, rfl, sq, all⟩ := hv.tuple
        exact .inr (.inl ⟨q, rfl, ⟨vs, sqT_full sq⟩, a _ _ _ H1 s1 m1 (itS_tup vs all.len).c ⟨sq, all⟩ hk⟩)
      | str z => exact .inr (.inr ⟨z, hv.str_eq, a _ _ _ H1 s1 m1 itS_str.c trivial hk⟩)
      | _ => exact hk.elim
    · exact .inl ⟨q, rfl, ⟨vs, .inl (.inl e1)⟩, a _ _ _ H1 s1 m1 (itC_list vs hv.len (f.notM qL)) ⟨e1, hv⟩ hk⟩, ax⟩
theorem xRg1 (hg : Gl X "range") (hm : X.mg "range" = none) (h : PE X x (tP S E w)) (hs : starEach [x] X.env = [(false, eval x X.env)] := by rfl) (hs2 : starEach [x] X.env = (false, eval x X.env) :: starEach [] X.env := by rfl) : PI X tg (.Call (.Name "range" p) [x] [] pos) (tPI S E (wRg1 w)) :=
  piTo (pi_range1 hg hm (pa_cons h pa_nil hs2) hs) fun σ H R ⟨M, A, L, δ, k, e, f, hw, a, ax⟩ =>
  ⟨M, A, L, δ, _, e, f, hw, fun v d H1 s1 m1 hv hk => by
    cases d with
    | int n => exact ⟨n, by rw [hv.int_eq], hk.1, hk.2.1, a _ _ _ H1 s1 m1 itS_range trivial hk.2.2⟩
    | _ => exact hk.elim, ax⟩
theorem xRg2 (hg : Gl X "range") (hm : X.mg "range" = none) (h : PE X x (tP S E wa)) (h2 : PE X y (tP S E wb)) (hs : starEach [x, y] X.env = [(false, eval x X.env), (false, eval y X.env)] := by rfl) (hs2 : starEach [y] X.env = [(false, eval y X.env)] := by rfl)
    (hs3 : starEach [x, y] X.env = (false, eval x X.env) :: starEach [y] X.env := by rfl) (hs4 : starEach [y] X.env = (false, eval y X.env) :: starEach [] X.env := by rfl) : PI X tg (.Call (.Name "range" p) [x, y] [] pos) (tPI S E (wRg2 wa wb)) :=
  piTo (pi_range2 hg hm (pa_cons h (pa_cons h2 pa_nil hs4) hs3) hs hs2) fun σ H R ⟨M, A, L, δ, k, e, f, hw, a, ax⟩ =>
  ⟨M, A, L, δ, _, e, f, hw, fun v d H1 s1 m1 hv hk => ⟨M, A, L, δ, _, e, f.step s1 m1, hk, fun u c H2 s2 m2 hu hk2 => by
    cases d with
    | int i =>
      cases c with
      | int j => exact ⟨i, j, by rw [hv.int_eq, hu.int_eq], hk2.1, a _ _ _ H2 (s1.trans m1 s2) m2 itS_range trivial hk2.2⟩
      | _ => exact hk2.elim
    | _ => cases c <;> exact hk2.elim, ax.step s1 m1⟩, ax⟩
theorem xRg3 (hg : Gl X "range") (hm : X.mg "range" = none) (h : PE X x (tP S E wa)) (h2 : PE X y (tP S E wb)) (h3 : PE X z (tP S E wc)) (hs : starEach [x, y, z] X.env = (false, eval x X.env) :: starEach [y, z] X.env := by rfl) (hpl : (backTo pos (starEach [y, z] X.env)).any (·.1) = false := by rfl)
    (hs3 : starEach [y, z] X.env = (false, eval y X.env) :: starEach [z] X.env := by rfl) (hs4 : starEach [z] X.env = (false, eval z X.env) :: starEach [] X.env := by rfl) : PI X tg (.Call (.Name "range" p) [x, y, z] [] pos) (tPI S E (wRg3 wa wb wc)) :=
  piTo (pi_range3 hg hm (pa_cons h (pa_cons h2 (pa_cons h3 pa_nil hs4) hs3) hs) hs hpl) fun σ H R ⟨M, A, L, δ, k, e, f, hw, a, ax⟩ =>
  ⟨M, A, L, δ, _, e, f, hw, fun v d H1 s1 m1 hv hk => ⟨M, A, L, δ, _, e, f.step s1 m1, hk, fun u c H2 s2 m2 hu hk2 => ⟨M, A, L, δ, _, e, f.step (s1.trans m1 s2) m2, hk2, fun u3 c3 H3 s3 m3 hu3 hk3 => by
    cases d with
    | int i =>
      cases c with
      | int j =>
        cases c3 with
        | int c =>
          obtain ⟨n, r, hk4⟩ := hk3
          exact ⟨i, j, c, n, by rw [hv.int_eq, hu.int_eq, hu3.int_eq], r, a _ _ _ H3 ((s1.trans m1 s2).trans m2 s3) m3 itS_rangeC trivial hk4⟩
        | _ => exact hk3.elim
      | _ => cases c3 <;> exact hk3.elim
    | _ => cases c <;> cases c3 <;> exact hk3.elim, ax.step (s1.trans m1 s2) m2⟩, ax.step s1 m1⟩, ax⟩
variable {elts : List Expr} {kk : Nat} {tpos : Pos}
theorem xEnumL (hg : Gl X "enumerate") (hm : X.mg "enumerate" = none) (h : PE X x (tPW S E w)) (hs : starEach [x] X.env = [(false, eval x X.env)] := by rfl) (hs2 : starEach [x] X.env = (false, eval x X.env) :: starEach [] X.env := by rfl) (hK : X.K = S.K := by rfl) :
    PI X (.Tuple elts kk tpos) (.Call (.Name "enumerate" p) [x] [] pos) (tPIC S E (wEnum fun δ k e => w δ (fun d => match d with | .lst l => k (.lst l) | _ => False) e)) :=
  piTo (pi_enum hg hm (pa_cons h pa_nil hs2) hs) fun σ H R ⟨M, A, L, δ, k, e, f, hw, a, ax⟩ =>
  ⟨M, A, L, δ, _, e, f, hw, fun v d H1 s1 m1 hv hk => by
    rw [hK]
    rcases hv with hv | ⟨q, vs, ds, rfl, rfl, qL, e1, hv⟩
    · cases d with
      | lst l =>
        obtain ⟨q, vs, rfl, sq, all⟩ := hv.list
        exact ⟨q, vs, rfl, .inl (.inl (hv_le _ _ sq)), a _ _ _ H1 s1 m1 (itS_enum vs all.len).c ⟨sq, all⟩ hk⟩
      | _ => exact hk.elim
    · exact ⟨q, vs, rfl, .inl (.inl e1), a _ _ _ H1 s1 m1 (itC_enum vs hv.len (f.notM qL)) ⟨e1, hv⟩ hk⟩, ax⟩
theorem xEnumLS (hg : Gl X "enumerate") (hm : X.mg "enumerate" = none) (h : PE X x (tP S E w)) (hs : starEach [x] X.env = [(false, eval x X.env)] := by rfl) (hs2 : starEach [x] X.env = (false, eval x X.env) :: starEach [] X.env := by rfl) (hK : X.K = S.K := by rfl) :
    PI X (.Tuple elts kk tpos) (.Call (.Name "enumerate" p) [x] [] pos) (tPI S E (wEnum fun δ k e => w δ (fun d => match d with | .lst l => k (.lst l) | _ => False) e)) :=
  piTo (pi_enum hg hm (pa_cons h pa_nil hs2) hs) fun σ H R ⟨M, A, L, δ, k, e, f, hw, a, ax⟩ =>
  ⟨M, A, L, δ, _, e, f, hw, fun v d H1 s1 m1 hv hk => by
    rw [hK]
    cases d with
    | lst l =>
      obtain ⟨q, vs, rfl, sq, all⟩ := hv.list
      exact ⟨q, vs, rfl, .inl (.inl (hv_le _ _ sq)), a _ _ _ H1 s1 m1 (itS_enum vs all.len) ⟨sq, all⟩ hk⟩
    | _ => exact hk.elim, ax⟩
theorem xEnumT (hg : Gl X "enumerate") (hm : X.mg "enumerate" = none) (h : PE X x (tP S E w)) (hs : starEach [x] X.env = [(false, eval x X.env)] := by rfl) (hs2 : starEach [x] X.env = (false, eval x X.env) :: starEach [] X.env := by rfl) (hK : X.K = S.K := by rfl) :
    PI X (.Tuple elts kk tpos) (.Call (.Name "enumerate" p) [x] [] pos) (tPI S E (wEnum fun δ k e => w δ (fun d => match d with | .tup l => k (.tup l) | _ => False) e)) :=
  piTo (pi_enumT hg hm (pa_cons h pa_nil hs2) hs) fun σ H R ⟨M, A, L, δ, k, e, f, hw, a, ax⟩ =>
  ⟨M, A, L, δ, _, e, f, hw, fun v d H1 s1 m1 hv hk => by
    rw [hK]
    cases d with
    | tup l =>
      obtain ⟨q, vs, rfl, sq, all⟩ := hv.tuple
      exact ⟨q, vs, rfl, sqT_full sq, a _ _ _ H1 s1 m1 (itS_enumT vs all.len) ⟨sq, all⟩ hk⟩
    | _ => exact hk.elim, ax⟩
theorem xZip (hg : Gl X "zip") (hm : X.mg "zip" = none) (h : PE X x (tP S E wa)) (h2 : PE X y (tP S E wb)) (hs : starEach [x, y] X.env = (false, eval x X.env) :: starEach [y] X.env := by rfl) (hpl : (backTo pos (starEach [y] X.env)).any (·.1) = false := by rfl) (hs2 : starEach [y] X.env = (false, eval y X.env) :: starEach [] X.env := by rfl) (hK : X.K = S.K := by rfl) :
    PI X (.Tuple elts kk tpos) (.Call (.Name "zip" p) [x, y] [] pos) (tPI S E (wZip wa wb)) :=
  piTo (RZ.pi_zipA hg hm (pa_cons h (pa_cons h2 pa_nil hs2) hs) hs hpl) fun σ H R ⟨M, A, L, δ, k, e, f, hw, a, ax⟩ =>
  ⟨M, A, L, δ, _, e, f, hw, fun v d H1 s1 m1 hv hk => ⟨M, A, L, δ, _, e, f.step s1 m1, hk, fun u c H2 s2 m2 hu hk2 => by
    have hv2 := hv.same ((Stp.wide s2).hv f.mA)
    rw [hK]
    cases d with
    | lst l =>
      cases c with
      | lst r =>
        obtain ⟨q, vs, rfl, sq, all⟩ := hv2.list
        obtain ⟨q2, ws, rfl, sq2, all2⟩ := hu.list
        exact ⟨q, q2, vs, ws, rfl, .inl ⟨.inl (.inl (hv_le _ _ sq)), .inl (.inl (hv_le _ _ sq2)), a _ _ _ H2 (s1.trans m1 s2) m2 (itS_zip vs ws all.len all2.len) ⟨⟨sq, all⟩, sq2, all2⟩ hk2⟩⟩
      | _ => exact hk2.elim
    | tup l =>
      cases c with
      | tup r =>
        obtain ⟨q, vs, rfl, sq, all⟩ := hv2.tuple
        obtain ⟨q2, ws, rfl, sq2, all2⟩ := hu.tuple
        exact ⟨q, q2, vs, ws, rfl, .inr ⟨sqT_full sq, sqT_full sq2, a _ _ _ H2 (s1.trans m1 s2) m2 (itS_zipT vs ws all.len all2.len) ⟨⟨sq, all⟩, sq2, all2⟩ hk2⟩⟩
      | _ => exact hk2.elim
    | _ => cases c <;> exact hk2.elim, ax.step s1 m1⟩, ax⟩
theorem xRevL (hg : Gl X "reversed") (hm : X.mg "reversed" = none) (h : PE X x (tP S E w)) (hs : starEach [x] X.env = [(false, eval x X.env)] := by rfl) (hs2 : starEach [x] X.env = (false, eval x X.env) :: starEach [] X.env := by rfl) (hK : X.K = S.K := by rfl) :
    PI X tg (.Call (.Name "reversed" p) [x] [] pos) (tPI S E (wRev fun δ k e => w δ (fun d => match d with | .lst l => k (.lst l) | _ => False) e)) :=
  piTo (pi_reversed hg hm (pa_cons h pa_nil hs2) hs) fun σ H R ⟨M, A, L, δ, k, e, f, hw, a, ax⟩ =>
  ⟨M, A, L, δ, _, e, f, hw, fun v d H1 s1 m1 hv hk => by
    rw [hK]
    cases d with
    | lst l =>
      obtain ⟨q, vs, rfl, sq, all⟩ := hv.list
      exact ⟨q, vs, rfl, .inl (.inl (hv_le _ _ sq)), a _ _ _ H1 s1 m1 (itS_rev vs all.len) ⟨sq, all⟩ hk⟩
    | _ => exact hk.elim, ax⟩
end
end LW

set_option Elab.async false
set_option linter.all false
set_option maxRecDepth 100000
set_option maxHeartbeats 4000100
/-! comprehensions, told of plain data -/
namespace LW
open L2 PySem.Spec PyProof.Rows PySem
def wipeD (δ : De) : List Nat → De
  | [] => δ
  | v :: vs => (wipeD δ vs).set v none
section
variable {S : Su} {M : Mu} {L A : List Addr} {σ σ2 : L2.St} {δ : De} {H H' : Hp} {p : Addr} {v : V} {d : Dt}
theorem Fr.clear (f : Fr S M A L σ δ H) (i : Nat) : Fr S M A L (σ.set i none) (δ.set i none) H := by
  have key : ∀ (j : Nat) (s : Sl), (δ.set i none)[j]? = some (some s) → i ≠ j ∧ δ[j]? = some (some s) := fun j s hj => by
    by_cases z : i = j
    · subst z
      have l := (List.getElem?_eq_some_iff.mp hj).1
      rw [List.length_set] at l
      rw [List.getElem?_set_self l] at hj
      cases hj
    · rw [List.getElem?_set_ne z] at hj
      exact ⟨z, hj⟩
  exact {
    len := by rw [List.length_set, List.length_set, f.len]
    hd := f.hd
    dis := f.dis
    mA := f.mA
    mu := f.mu
    val := fun j d hj => by
      obtain ⟨z, hj⟩ := key j _ hj
      obtain ⟨u, e1, q⟩ := f.val j d hj
      exact ⟨u, by rw [List.getElem?_set_ne z]; exact e1, q⟩
    own := fun j ds hj => by
      obtain ⟨z, hj⟩ := key j _ hj
      obtain ⟨p, vs, e1, q⟩ := f.own j ds hj
      exact ⟨p, vs, by rw [List.getElem?_set_ne z]; exact e1, q⟩
    uni := fun j k ds es p h1 h2 h3 h4 => by
      obtain ⟨z1, h1⟩ := key j _ h1
      obtain ⟨z2, h2⟩ := key k _ h2
      rw [List.getElem?_set_ne z1] at h3
      rw [List.getElem?_set_ne z2] at h4
      exact f.uni j k ds es p h1 h2 h3 h4 }
theorem Fr.wipe (f : Fr S M A L σ δ H) : ∀ vs : List Nat, Fr S M A L (L2.wipe σ vs) (wipeD δ vs) H
  | [] => f
  | v :: vs => (f.wipe vs).clear v
theorem wipe_get (σ : L2.St) (j : Nat) : ∀ vs : List Nat, (L2.wipe σ vs)[j]? = if j ∈ vs then (σ[j]?).map (fun _ => none) else σ[j]?
  | [] => by rw [if_neg (by simp)]; rfl
  | v :: vs => by
    have ih := wipe_get σ j vs
    unfold L2.wipe
    by_cases z : v = j
    · subst z
      rw [if_pos List.mem_cons_self]
      by_cases l : v < σ.length
      · rw [List.getElem?_set_self (by rw [wipe_length]; exact l), List.getElem?_eq_getElem l]; rfl
      · rw [List.getElem?_eq_none_iff.mpr (by rw [List.length_set, wipe_length]; omega), List.getElem?_eq_none_iff.mpr (by omega)]; rfl
    · rw [List.getElem?_set_ne z, ih]
      have : (j ∈ v :: vs) ↔ j ∈ vs := ⟨fun h => (List.mem_cons.mp h).elim (fun e => absurd e.symm z) id, List.mem_cons_of_mem _⟩
      by_cases h : j ∈ vs
      · rw [if_pos h, if_pos (this.mpr h)]
      · rw [if_neg h, if_neg fun q => h (this.mp q)]
theorem wipe_but {vs : List Nat} (h : SlotsBut vs (L2.wipe σ vs) σ2) : L2.wipe σ2 vs = L2.wipe σ vs := by
  apply List.ext_getElem?
  intro j
  rw [wipe_get σ2]
  by_cases z : j ∈ vs
  · rw [if_pos z, wipe_get σ, if_pos z]
    have l1 : σ2.length = σ.length := by rw [h.1, wipe_length]
    by_cases l : j < σ.length
    · rw [List.getElem?_eq_getElem (by omega), List.getElem?_eq_getElem l]; rfl
    · rw [List.getElem?_eq_none_iff.mpr (by omega), List.getElem?_eq_none_iff.mpr (by omega)]
  · rw [if_neg z]
    exact h.2 j z
theorem hv_mem {A B : List Addr} (h : ∀ x, x ∈ A ↔ x ∈ B) : Same (hv A H) (hv B H) := hv_sub fun x hx => (h x).mpr hx
theorem mem_mid {x p : Addr} {L A : List Addr} : x ∈ L ++ p :: A ↔ x ∈ p :: (L ++ A) := by
  simp only [List.mem_append, List.mem_cons]
  constructor
  · rintro (h | h | h)
    · exact .inr (.inl h)
    · exact .inl h
    · exact .inr (.inr h)
  · rintro (h | h | h)
    · exact .inr (.inl h)
    · exact .inl h
    · exact .inr (.inr h)
/-- a new thing is hidden -/
theorem Fr.hide (f : Fr S M A L σ δ H) (n : H p = none) (s : Stp M [] H [] H') (m : MOk S M H') (e : H' p ≠ none) : Fr S M (p :: A) L σ δ H' := by
  have mB : ∀ x ∈ M, x.1 ∈ L ++ A := fun x hx => List.mem_append_right _ (f.mA x hx)
  have hs : Same (hv (L ++ A) H) (hv (L ++ p :: A) H') := (hide_stp n s mB).trans (hv_mem fun x => mem_mid.symm)
  have pL : p ∉ L := fun z => f.hd p (List.mem_append_left _ z) n
  exact {
    len := f.len
    hd := fun a ha => by
      rcases List.mem_cons.mp (mem_mid.mp ha) with z | z
      · rw [z]; exact e
      · exact held_stp s m f.hd a z
    dis := fun q hq z => by
      rcases List.mem_cons.mp z with w | w
      · exact pL (by rw [← w]; exact hq)
      · exact f.dis q hq w
    mA := fun x hx => List.mem_cons_of_mem _ (f.mA x hx)
    mu := m
    val := fun i d hi => by
      obtain ⟨u, e1, q⟩ := f.val i d hi
      exact ⟨u, e1, q.same hs⟩
    own := fun i ds hi => by
      obtain ⟨q, vs, e1, qL, e2, h⟩ := f.own i ds hi
      exact ⟨q, vs, e1, qL, s.keep q _ (f.notM qL) (by simp) e2, h.same hs⟩
    uni := f.uni }
/-- a hidden thing is changed -/
theorem Fr.updHid {o : HO} (f : Fr S M A L σ δ H) (h : p ∈ A) (nM : p ∉ M.map Prod.fst) : Fr S M A L σ δ (upd H p o) := by
  have hs : Same (hv (L ++ A) H) (hv (L ++ A) (upd H p o)) := fun b u q => by
    have hb : b ∉ L ++ A := fun z => by rw [hv_in z] at q; cases q
    rw [hv_out hb] at q ⊢
    rw [upd_ne fun z => hb (by rw [z]; exact List.mem_append_right _ h)]
    exact q
  exact {
    len := f.len
    hd := fun a ha z => by
      by_cases w : a = p
      · rw [w, upd_same] at z; cases z
      · rw [upd_ne w] at z; exact f.hd a ha z
    dis := f.dis
    mA := f.mA
    mu := fun x hx => by
      obtain ⟨u, q, r⟩ := f.mu x hx
      refine ⟨u, ?_, r⟩
      rw [upd_ne fun z => nM (by rw [← z]; exact List.mem_map.mpr ⟨x, hx, rfl⟩)]
      exact q
    val := fun i d hi => by
      obtain ⟨u, e1, q⟩ := f.val i d hi
      exact ⟨u, e1, q.same hs⟩
    own := fun i ds hi => by
      obtain ⟨q, vs, e1, qL, e2, h2⟩ := f.own i ds hi
      refine ⟨q, vs, e1, qL, ?_, h2.same hs⟩
      rw [upd_ne fun z => f.dis q qL (by rw [z]; exact h)]
      exact e2
    uni := f.uni }
end
abbrev E0' : XK := fun _ _ _ => False
abbrev nE : Er → Prop := fun _ => False
theorem afx0 {S : Su} {M : Mu} {A : List Addr} {H : Hp} {E : XK} : AftX S M A H nE E := fun _ _ _ _ _ _ _ h => h.elim
def lcL (f : Dt → (Option Dt → Prop) → Prop) : List Dt → List Dt → (List Dt → Prop) → Prop
  | [], acc, k => k acc
  | d :: ds, acc, k => f d fun o => lcL f ds (match o with | some y => acc ++ [y] | none => acc) k
def wYes : WT := fun _ k _ => k true
def wLc (vs : List Nat) (wi : WI) (g : WG) (wt : WT) (we : WE) : WE := fun δ k e => wi δ (fun items => items.length ≤ 10000000 ∧
  lcL (fun d k' => g d (wipeD δ vs) fun δ' => wt δ' (fun b => match b with | true => we δ' (fun y => k' (some y)) nE | false => k' none) nE) items [] (fun out => k (.lst out))) e
section
variable {X : Cx} {S : Su} {E : XK} {x : Expr} {wt : WT}
theorem xPts0 : PTs X [] (tPT S E0' wYes) := ⟨fun pins s σ H Q I ⟨M, A, L, δ, k, e, f, hw, a, ax⟩ => pts_nil.run pins s σ H Q I (a true H .refl f.mu hw)⟩
theorem xPts1 (h : PT X x (tPT S E0' wt)) : PTs X [x] (tPT S E0' wt) := pts_one h
variable {wi : WI} {g : WG} {we : WE} {is : List Nat}
theorem lcT {vs : List Nat} (his : ∀ i ∈ is, i ∈ vs) : ∀ σ H Q, tPF S E (wLc vs wi g wt we) σ H Q → tLc (tPIC S E wi) (tPG S is g) (tPT S E0' wt) (tP S E0' we) vs σ H Q := fun σ H Q ⟨M, A, L, δ, k, e, f, hw, a, ax⟩ =>
  ⟨M, A, L, δ, _, e, f, hw, fun J ds G H1 s1 m1 it hG hk D nD => by
    obtain ⟨hsz, hk⟩ := hk
    have f1 := f.step s1 m1
    have mB : ∀ x ∈ M, x.1 ∈ L ++ A := fun x hx => List.mem_append_right _ (f.mA x hx)
    have DA : D ∉ L ++ A := fun z => f1.hd D z nD
    have DM : D ∉ M.map Prod.fst := fun z => by
      obtain ⟨x, hx, rfl⟩ := List.mem_map.mp z
      exact DA (mB x hx)
    let F : Dt → (Option Dt → Prop) → Prop := fun d k' => g d (wipeD δ vs) fun δ' => wt δ' (fun b => match b with | true => we δ' (fun y => k' (some y)) nE | false => k' none) nE
    let Pv : Nat → Hp → Prop := fun i H' => ∃ (ws : List V) (acc : List Dt), H' D = some (.lst ws) ∧ Fr S M (D :: A) L σ δ H' ∧ Stp M [] H1 [] H' ∧ Das S M (hv (L ++ D :: A) H') ws acc ∧ acc.length ≤ i ∧ G (L ++ D :: A) H' ∧ lcL F (ds.drop i) acc (fun out => k (.lst out))
    have step : ∀ (i : Nat) (H2 : Hp) (ws : List V) (acc : List Dt) (y : V) (o : Dt), i < ds.length → H2 D = some (.lst ws) → Fr S M (D :: A) L σ δ H2 → Stp M [] H1 [] H2 → Das S M (hv (L ++ D :: A) H2) ws acc → acc.length ≤ i → G (L ++ D :: A) H2 → Da S M (hv (L ++ D :: A) H2) y o →
        lcL F (ds.drop (i + 1)) (acc ++ [o]) (fun out => k (.lst out)) → Pv (i + 1) (upd H2 D (.lst (ws ++ [y])))   := fun i H2 ws acc y o hi e2 f2 s2 h2 al g2 hy hl => by
      have f3 : Fr S M (D :: A) L σ δ (upd H2 D (.lst (ws ++ [y]))) := f2.updHid List.mem_cons_self DM
      have hs : Same (hv (L ++ D :: A) H2) (hv (L ++ D :: A) (upd H2 D (.lst (ws ++ [y])))) := fun b u q => by
        have hb : b ∉ L ++ D :: A := fun z => by rw [hv_in z] at q; cases q
        rw [hv_out hb] at q ⊢
        rw [upd_ne fun z => hb (by rw [z]; simp)]
        exact q
      have s3 : Stp M [] H1 [] (upd H2 D (.lst (ws ++ [y]))) := ⟨fun b u n1 n2 q => by
        rw [upd_ne fun z => by rw [z, nD] at q; cases q]
        exact s2.keep b u n1 n2 q, fun _ z => by cases z⟩
      refine ⟨_, acc ++ [o], upd_same, f3, s3, (h2.same hs).app (.cons (hy.same hs) .nil), by rw [List.length_append]; simp; exact al, ?_, hl⟩
      -- the source is as it was
      have sM : Stp M [] H1 [] (upd H2 D (.lst (ws ++ [y]))) := s3
      exact it.mono (L ++ A) _ H1 _ s3 ((hide_stp nD s3 mB).trans (hv_mem fun x => mem_mid.symm)) hG
    refine ⟨fun i m H' => m = ds.length - i ∧ i ≤ ds.length ∧ Pv i H', ⟨_, rfl, Nat.zero_le _, [], [], upd_same, ?_, .of (same_new nD), .nil, Nat.le_refl _, ?_, ?_⟩, ?_⟩
    · exact f1.hide nD (.of (same_new nD)) (m1.same (same_new nD)) (by rw [upd_same]; exact fun z => by cases z)
    · exact it.mono _ _ _ _ (.of (same_new nD)) ((hide_stp nD (.of (same_new nD)) mB).trans (hv_mem fun x => mem_mid.symm)) hG
    · exact hk
    · rintro i m H' ⟨rfl, hi, ws, acc, e', f', s', h', al, g', hl⟩
      by_cases hlt : i < ds.length
      · refine .inr ⟨it.goes i _ H' hlt g', fun H'' => Pv (i + 1) H'', fun H'' hp => ⟨_, by omega, rfl, hlt, hp⟩, fun x H2 y => ?_⟩
        obtain ⟨sx, hx⟩ := it.yields i _ H' x H2 (ds[i]) (List.getElem?_eq_getElem hlt) g' f'.hd y
        have f2 : Fr S M (D :: A) L σ δ H2 := f'.step (.of sx) (f'.mu.same sx)
        rw [List.drop_eq_getElem_cons hlt] at hl
        refine ⟨M, D :: A, L, wipeD δ vs, ds[i], _, f2.wipe vs, hx, hl, fun σ3 δ3 f3 sl hk3 => ⟨wipe_but ⟨sl.1, fun j hj => sl.2 j fun z => hj (his j z)⟩, ?_⟩⟩
        refine ⟨M, D :: A, L, δ3, _, nE, f3, hk3, fun b H3 s3 m3 hk4 => ?_, afx0⟩
        have f3' : Fr S M (D :: A) L σ δ H3 := f2.step s3 m3
        have s13 : Stp M [] H1 [] H3 := (s'.trans f'.mu (.of sx)).trans f2.mu s3
        have keep3 : H3 D = some (.lst ws) := s3.keep D _ DM (by simp) (sx _ _ e')
        have hws : Das S M (hv (L ++ D :: A) H3) ws acc := (h'.same (Go.hv (Go.of sx))).same (stp_hv s3 fun x hx => List.mem_append_right _ (List.mem_cons_of_mem _ (f.mA x hx)))
        have g3 : G (L ++ D :: A) H3 := it.mono _ _ _ _ ((Stp.of sx).trans f2.mu s3) ((Go.hv (Go.of sx)).trans (stp_hv s3 fun x hx => List.mem_append_right _ (List.mem_cons_of_mem _ (f.mA x hx)))) g'
        cases b with
        | true =>
          refine (if_pos rfl).mpr ⟨M, D :: A, L, δ3, _, nE, f3.step s3 m3, hk4, fun y o H4 s4 m4 hy hk5 => ?_, afx0⟩
          have f4' : Fr S M (D :: A) L σ δ H4 := f3'.step s4 m4
          have mm : ∀ x ∈ M, x.1 ∈ L ++ D :: A := fun x hx => List.mem_append_right _ (List.mem_cons_of_mem _ (f.mA x hx))
          exact ⟨ws, s4.keep D _ DM (by simp) keep3, by rw [h'.len, sizeLine_eq]; omega, step i H4 ws acc y o hlt (s4.keep D _ DM (by simp) keep3) f4' (s13.trans m3 s4) (hws.same (stp_hv s4 mm)) al (it.mono _ _ _ _ s4 (stp_hv s4 mm) g3) hy hk5⟩
        | false =>
          exact (if_neg Bool.false_ne_true).mpr ⟨ws, acc, keep3, f3', s13, hws, by omega, g3, hk4⟩
      · have ei : i = ds.length := by omega
        subst ei
        rw [List.drop_length] at hl
        refine .inl ⟨it.stops _ H' g', a D ws acc H' (stp_free s1 m1 nD) (s1.trans m1 s') f'.mu e' (h'.same (hv_mem fun x => mem_mid)) hl⟩, ax⟩
variable {elt tg iter : Expr} {ifs : List Expr} {scope : Scope} {own : List (Str × Nat)} {pos : Pos}
theorem xLc (hc : X.calm = true) (hN : X.N.Nodup) (hi : PI X tg iter (tPIC S E wi)) (ok : BlkOk X.N X.env.scope scope own)
    (hg : ∀ (s : Shared) (H : Hp) (C : Addr) (cl : List (Str × Addr)) (fp : List Addr), PG (X.blk s H scope (compEnvC scope cl C X.env) fp) tg (tPG S is g)) (ht : ∀ (s : Shared) (H : Hp) (C : Addr) (cl : List (Str × Addr)) (fp : List Addr), PTs (X.blk s H scope (compEnvC scope cl C X.env) fp) ifs (tPT S E0' wt))
    (he : ∀ (s : Shared) (H : Hp) (C : Addr) (cl : List (Str × Addr)) (fp : List Addr), PE (X.blk s H scope (compEnvC scope cl C X.env) fp) elt (tP S E0' we)) (his : ∀ i ∈ is, i ∈ own.map (·.2)) (hs : ∀ x, foldedSetIterable iter X.env x = pure x := by intro _; rfl) :
    PE X (.ListComp elt [⟨tg, iter, ifs, 0⟩] scope pos) (tPF S E (wLc (own.map (·.2)) wi g wt we)) := peTo (pe_lc hc hN hi ok hg ht he hs) (lcT his)
end
end LW

set_option Elab.async false
set_option linter.all false
set_option maxRecDepth 100000
set_option maxHeartbeats 4000100
/-! raise C(e), C an own class over ValueError whose __init__ keeps its one argument -/
namespace LW
open L2 PySem.Spec PyProof.Rows PySem
/-- what __init__(self, f): self.f = f promises -/
def sp_exi (K : PySem.W.Frag) (C : Addr) (n : Str) : Sp := fun vs H Q _ => ∃ (a : Addr) (v : V), vs = [.ref a, v] ∧ H a = some (exo a C none) ∧
  ∀ dx, H dx = none → dx ≠ a → Q .non (upd (upd H dx (exd dx [(n, v)])) a (exo a C (some dx)))
structure Rais (P : Program) (w : World) (K : PySem.W.Frag) (mg : Str → Option Value) (base : Heap) (k : Nat) (x : Str) (C : Addr) (n : Str) : Prop where
  oex : OexC K C
  xf : XfC K C
  noN : PySem.W.findIn K (.ref C) n = some none
  hm : mg x = some (.ref C)
  ini : ∃ (g : Addr) (fd : FuncData) (ps : List Str), PySem.W.findIn K (.ref C) "__init__" = some (some (.ref g)) ∧ PySem.W.typeIn K (.ref g) = some (.type "function") ∧ FnOk P w K mg base CX0 k g fd ps (sp_exi K C n) ∧ Binds K fd ps []
theorem made_eq {H1 : Hp} {a dx C : Addr} {n : Str} {v : V} {o : HO} (na : H1 a = none) (ne : dx ≠ a) :
    upd (del (upd (upd (upd H1 a (exo a C none)) dx (exd dx [(n, v)])) a (exo a C (some dx))) a) dx o = upd H1 dx o := by
  funext b
  by_cases h1 : b = dx
  · subst h1; rw [upd_same, upd_same]
  · rw [upd_ne h1, upd_ne h1]
    by_cases h2 : b = a
    · subst h2; rw [del_same, na]
    · rw [del_ne h2, upd_ne h2, upd_ne h1, upd_ne h2]
section
variable {X : Cx} {k j : Nat} {C : Addr} {x n : Str} {e : Expr} {es : List Expr} {t : TA} {W : WX} {p pos pos2 : Pos}
/-- the reading of the class called with v -/
theorem rais_read {K : PySem.W.Frag} {v : V} {H1 : Hp} {Q : XK} (h : ∀ d, H1 d = none → Q (.ref C) (some d) (upd H1 d (.xd [(n, v)]))) :
    [v].length ≤ 1000 ∧ ∀ a, H1 a = none → sp_exi K C n (.ref a :: ([v] ++ [])) (upd H1 a (exo a C none))
      (fun v H2 => v = .non ∧ ∃ (d : Addr) (fs : List (Str × V)), H2 a = some (exo a C (some d)) ∧ H2 d = some (exd d fs) ∧ H1 d = none ∧ Q (.ref C) (some d) (upd (del H2 a) d (.xd fs))) (fun _ _ _ => False) := by
  refine ⟨by show 1 ≤ 1000; decide, fun a na => ⟨a, v, rfl, upd_same, fun dx nd ne => ⟨rfl, dx, [(n, v)], upd_same, ?_, ?_, ?_⟩⟩⟩
  · rw [upd_ne ne, upd_same]
  · rw [upd_ne ne] at nd; exact nd
  · rw [made_eq na ne]
    refine h dx ?_
    rw [upd_ne ne] at nd; exact nd
theorem ps_rais (R : Rais X.prog X.w X.K X.mg X.base k x C n) (hc : X.calm = true) (hr : Room j X.A) (hk : k + 1 ≤ j) (tk : Takes X W) (hg : Gl X x) (ha : PA X (e :: es) t)
    (hdb : (x == ("__debug__" : Str)) = false := by
          decide) (he : starEach (e :: es) X.env = (false, eval e X.env) :: starEach es X.env := by rfl)
    (hpl : (backTo pos (starEach es X.env)).any (·.1) = false := by rfl) :
    PS X (.Raise (some (.Call (.Name x p) (e :: es) [] pos)) none pos2) (fun _ σ H => tMkO C (sp_exi X.K C n) [] t σ H fun cls d H' => W cls d σ H') := by
  obtain ⟨g, fd, ps, i1, i2, F, b⟩ := R.ini
  exact ps_raise hc tk (pmk_oex R.oex i1 i2 F (hr.mono hk) b .nil pass0 hg R.hm ha hdb he hpl)
end
/-! ### a method that may raise -/
structure MetX (P : Program) (w : World) (K : PySem.W.Frag) (mg : Str → Option Value) (base : Heap) (k : Nat) (C : Addr) (m : Str) (sp : Sp) : Prop where
  ex : ∃ (f : Addr) (fd : FuncData) (ps : List Str), Cls K C ∧ Meth K C m f ∧ FnOk P w K mg base (L2.CX P w) k f fd ps sp ∧ Binds K fd ps []
section
variable {X : Cx} {k j : Nat} {C : Addr} {m : Str} {sp : Sp} {pos apos : Pos} {e o : Expr} {es : List Expr} {ta : TE} {t : TA} {E : XK}
theorem pe_mtX {pl : Sem Bool} (cl : MetX X.prog X.w X.K X.mg X.base k C m sp) (hr : Room j X.A) (hk : k ≤ j) (hx : Passes (L2.CX X.prog X.w) X E) (he : PE X o ta) (ha : PA X (e :: es) t)
    (hst : starEach (e :: es) X.env = (false, eval e X.env) :: starEach es X.env := by rfl)
    (hpl : (backTo pos (starEach es X.env)).any (·.1) = false := by rfl)
    (ht : eval (.Call (.Attribute o m apos) (e ::
          es) [] pos) X.env = (do
        let v ← eval o X.env
        standAt apos.atName
        let (g, fst) ← holding [v] (getMethod v m pl)
        callWith pos g fst (backTo pos (starEach (e :: es) X.env)) (backToKw pos (keywordEach [] X.env))) := by rfl) :
    PE X (.Call (.Attribute o m apos) (e :: es) [] pos) (tMeth C m sp [] E ta t) := by
  obtain ⟨f, fd, ps, c, me, F, b⟩ := cl.ex
  exact pe_meth (pl := pl) he c me F (hr.mono hk) b .nil hx ha hst hpl ht
end
/-! ### isinstance(e, c), e the caught error, an own one with a dict -/
structure IsEx (K : PySem.W.Frag) (D : Addr) : Prop where
  cl : (PySem.W.clsIn K D).isSome = true
  ga : PySem.W.findIn K (.ref D) "__getattribute__" = some (some (.builtin "BaseException.__getattribute__"))
  gg : PySem.W.findIn K (.ref D) "__getattr__" = some none
  sb : PySem.W.subIn K (.ref D) (.type "BaseException") = some true
  ca : PySem.W.findIn K (.ref D) "__class__" = some (some (.builtin "object.__class__"))
  sp : PySem.W.specialIn K (.builtin "object.__class__") "__get__" = some (some (.builtin "getset_descriptor.__get__"))
  tk : PySem.W.takesIn K (.builtin "object.__class__") = some true
  mr : PySem.W.mroIn K D (.type "object") = some true
def rIsO (K : PySem.W.Frag) (D a : Addr) (cls : Value) (d : Option Addr) : List V → Hp → VK → Prop := fun xs H Q => ∃ (c : V) (cv : Value) (b : Bool) (dd : Addr) (fs : List (Str × V)), xs = [.ref a, c] ∧ cls = .ref D ∧ d = some dd ∧ (∀ u, RelV c u → u = cv) ∧ H dd = some (.xd fs) ∧ PySem.W.kitOne K (.ref D) cv = some b ∧ Q (.bl b) H
theorem call_isO {X : Cx} {a D : Addr} {cls : Value} {d : Option Addr} {oe : Obj} {pn : List (Addr × Obj)} (C : IsEx X.K D) (hz : Zc cls d oe) (hf : ∃ vs, oe.data = .fields vs) : CallR (X.suite a ((a, oe) :: pn)) (.builtin "isinstance") (rIsO X.K D a cls d) := by
  intro pins s σ H xs
        us Q I r h
  obtain ⟨c, cv, b, dd, fs, rfl, rfl, rfl, hcv, ed, e, q⟩ := h
  obtain ⟨u1, us', rfl, r1, r2⟩ : ∃ u1 us', us = u1 :: us' ∧ RelV (V.ref a) u1 ∧ Vals [c] us' := by
    cases r with
    | cons r1 r2 => exact ⟨_, _, rfl, r1, r2⟩
  obtain ⟨u2, rfl, rb⟩ := vals1 r2
  have e1 : u1 = Value.ref a := r1
  subst e1
  have e2 := hcv _ rb
  subst e2
  obtain ⟨at_, _⟩ := I.pin (a, oe) (List.mem_append_left _ List.mem_cons_self)
  obtain ⟨vs, hv⟩ := hf
  have hx : ObjOk X.prog X.w H s.heap dd (.xd fs) := I.hok dd _ ed
  obtain ⟨mA, hns, hr⟩ := hx
  obtain ⟨od, ho, hl⟩ :=
        lookIn_ns hns
  have J : PySem.W.InstAt s.heap a oe D (some od) := by
    refine ⟨at_, hz.1, ?_, ?_⟩
    · unfold PySem.W.notCls
      rw [hv] <;> rfl
    · rw [hz.2]; exact ho
  refine PySem.W.kia_one (PySem.W.kitx_exc C.cl C.ga C.gg C.sb C.ca C.sp C.tk C.mr) I.kIn J e (fun z => nomatch z) ?_
  intro tk
  exact ⟨.bl b, H, I.kept (t' := tk) fun _ _ z => z, rfl, q⟩
/-- what is taken may tell of the number of slots -/
theorem Takes.len {X : Cx} {W W' : WX} (t : Takes X W) (h : ∀ c d σ H, σ.length = X.N.length → W' c d σ H → W c d σ H) : Takes X W' := by
  rintro u s' ⟨a, B, sI, pins, σ, H, cls, d, e, I, nb, up, sky, na, os, ag, w⟩
  exact t u s' ⟨a, B, sI, pins, σ, H, cls, d, e, I, nb, up, sky, na, os, ag, h _ _ _ _ I.len w⟩
end LW

set_option Elab.async false
set_option linter.all false
set_option maxRecDepth 100000
set_option maxHeartbeats 4000100
/-! statements and defs, told of plain data -/
namespace LW
open L2 PySem.Spec PyProof.Rows PySem
structure EndD where
  nx : De → Prop
  rt : Dt → Prop
  bk : De → Prop := fun _ => False
  ct : De → Prop := fun _ => False
  rf : List Dt → Prop := fun _ => False
abbrev WS := EndD → De → (Er → Prop) → Prop
def AftS (S : Su) (M : Mu) (L A : List Addr) (H : Hp) (k : De → Prop) (Q : L2.St → Hp → Prop) : Prop := ∀ L' δ' σ' H', Stp M L H L' H' → Fr S M A L' σ' δ' H' → k δ' → Q σ' H'
def AftR (S : Su) (M : Mu) (L A : List Addr) (H : Hp) (k : Dt → Prop) (Q : VK) : Prop := ∀ L' v d H', Stp M L H L' H' → MOk S M H' → Da S M (hv A H') v d → k d → Q v H'
/-- .. a list that nothing else knows -/
def AftRF (S : Su) (M : Mu) (L A : List Addr) (H : Hp) (k : List Dt → Prop) (Q : VK) : Prop := ∀ (p : Addr) (vs : List V) (ds : List Dt) (H' : Hp), (∃ L', Stp M L H L' H') → MOk S M H' → (H p = none ∨ p ∈ L) → H' p = some (.lst vs) → Das S M (hv (p :: A) H') vs ds → k ds → Q (.ref p) H'
def AftXS (S : Su) (M : Mu) (L A : List Addr) (H : Hp) (e : Er → Prop) (E : XK) : Prop := ∀ L' x cls dd H', Stp M L H L' H' → MOk S M H' → XOk S M A x cls dd H' → e x → E cls dd H'
/-- what is told behind a statement -/
structure AftD (S : Su) (M : Mu) (L A : List Addr) (H : Hp) (DP : EndD) (e : Er → Prop) (D : Ends) (E : XK) : Prop where
  nx : AftS S M L A H DP.nx D.nx
  rt : AftR S M L A H DP.rt D.rt
  bk : AftS S M L A H DP.bk D.bk
  ct : AftS S M L A H DP.ct D.ct
  ex : AftXS S M L A H e E
  rf : AftRF S M L A H DP.rf D.rt
def tPS (S : Su) (E : XK) (w : WS) : TS := fun D σ H => ∃ M A L δ DP e, Fr S M A L σ δ H ∧ w DP δ e ∧ AftD S M L A H DP e D E
section
variable {S : Su} {M : Mu} {L L1 A : List Addr} {H H1 : Hp} {kd : De → Prop} {k : Dt → Prop} {e : Er → Prop} {E : XK} {Qs : L2.St → Hp → Prop} {Q : VK} {DP : EndD} {D : Ends}
theorem AftS.step (s : Stp M L H L1 H1) (m : MOk S M H1) (h : AftS S M L A H kd Qs) : AftS S M L1 A H1 kd Qs := fun L' δ' σ' H' s2 f hk => h L' δ' σ' H' (s.trans m s2) f hk
theorem AftR.step (s : Stp M L H L1 H1) (m : MOk S M H1) (h : AftR S M L A H k Q) : AftR S M L1 A H1 k Q := fun L' v d H' s2 m2 hv hk => h L' v d H' (s.trans m s2) m2 hv hk
theorem AftRF.step {kl : List Dt → Prop} (s : Stp M L H L1 H1) (m : MOk S M H1) (h : AftRF S M L A H kl Q) : AftRF S M L1 A H1 kl Q := fun p vs ds H' ⟨L', s2⟩ m2 hp ep hv hk => h p vs ds H' ⟨L', s.trans m s2⟩ m2 (by
  rcases hp with n | i
  · by_cases z : p ∈ L
    · exact .inr z
    · refine .inl ?_
      cases q : H p with
      | none => rfl
      | some o =>
        by_cases t : p ∈ M.map Prod.fst
        · exact absurd n (m.held t)
        · rw [s.keep p o t z q] at n; cases n
  · exact (s.new p i).elim .inr .inl) ep hv hk
theorem AftXS.step (s : Stp M L H L1 H1) (m : MOk S M H1) (h : AftXS S M L A H e E) : AftXS S M L1 A H1 e E := fun L' x c dd H' s2 m2 hx he => h L' x c dd H' (s.trans m s2) m2 hx he
theorem AftD.step (s : Stp M L H L1 H1) (m : MOk S M H1) (h : AftD S M L A H DP e D E) : AftD S M L1 A H1 DP e D E := ⟨h.nx.step s m, h.rt.step s m, h.bk.step s m, h.ct.step s m, h.ex.step s m, h.rf.step s m⟩
theorem AftXS.x (h : AftXS S M L A H e E) : AftX S M A H e E := fun x c dd H' s m hx he => h L x c dd H' s.wide m hx he
end
/-! ### the statements -/
def wNx : WS := fun D δ _ => D.nx δ
def wSeq (a b : WS) : WS := fun D δ e => a { D with nx := fun δ' => b D δ' e } δ e
def wBk : WS := fun D δ _ => D.bk δ
def wCt : WS := fun D δ _ => D.ct δ
def wNev : WS := fun _ _ _ => False
def wEx (w : WE) : WS := fun D δ e => w δ (fun _ => D.nx δ) e
def wSet (i : Nat) (w : WE) : WS := fun D δ e => w δ (fun d => D.nx (δ.set i (some (.val d)))) e
def wOwn (i : Nat) (w : WE) : WS := fun D δ e => w δ (fun d => match d with | .lst l => D.nx (δ.set i (some (.own l))) | _ => False) e
def wAsg (w : WE) (g : WG) : WS := fun D δ e => w δ (fun d => g d δ D.nx) e
def wPar (i j : Nat) (wa : WA) : WS := fun D δ e => wa δ (fun l => match l with | [a, b] => D.nx ((δ.set i (some (.val a))).set j (some (.val b))) | _ => False) e
def wRet (w : WE) : WS := fun D δ e => w δ D.rt e
def wRetN : WS := fun D _ _ => D.rt .non
/-- a list that nothing else knows is given back -/
def wRetF (w : WE) : WS := fun D δ e => w δ (fun d => match d with | .lst l => D.rf l | _ => False) e
def wIfS (c : WT) (a b : WS) : WS := fun D δ e => c δ (fun r => match r with | true => a D δ e | false => b D δ e) e
def forL (g : WG) (b : WS) (D : EndD) (e : Er → Prop) : List Dt → De → Prop
  | [], δ => D.nx δ
  | d :: ds, δ => g d δ fun δ' => b { nx := forL g b D e ds, rt := D.rt, bk := D.nx, ct := forL g b D e ds, rf := D.rf } δ' e
def wFor (wi : WI) (g : WG) (b : WS) : WS := fun D δ e => wi δ (fun items => forL g b D e items δ) e
def whN (c : WT) (b : WS) (D : EndD) (e : Er → Prop) : Nat → De → Prop
  | 0, _ => False
  | n + 1, δ => c δ (fun r => match r with | true => b { nx := whN c b D e n, rt := D.rt, bk := D.nx, ct := whN c b D e n, rf := D.rf } δ e | false => D.nx δ) e
def wWhile (c : WT) (b : WS) : WS := fun D δ e => ∃ n, whN c b D e n δ
/-- the list of the frame's own in a slot -/
def lookL : De → Nat → (List Dt → Prop) → Prop
  | [], _, _ => False
  | some (.own l) :: _, 0, k => k l
  | some (.val _) :: _, 0, _ => False
  | none :: _, 0, _ => False
  | _ :: r, n + 1, k => lookL r n k
theorem lookL_of : ∀ {δ : De} {i : Nat} {k : List Dt → Prop}, lookL δ i k → ∃ d, δ[i]? = some (some (.own d)) ∧ k d
  | [], _, _, h => h.elim
  | some (.own d) :: _, 0, _, h => ⟨d, rfl, h⟩
  | some (.val _) :: _, 0, _, h => h.elim
  | none :: _, 0, _, h => h.elim
  | some (.val d) :: r, n + 1, k, h => by
    obtain ⟨e, h1, h2⟩ := lookL_of (δ := r) (i := n) (k := k) h
    exact ⟨e, by simpa using h1, h2⟩
  | some (.own d) :: r, n + 1, k, h => by
    obtain ⟨e, h1, h2⟩ := lookL_of (δ := r) (i := n) (k := k) h
    exact ⟨e, by simpa using h1, h2⟩
  | none :: r, n + 1, k, h => by
    obtain ⟨e, h1, h2⟩ := lookL_of (δ := r) (i := n) (k := k) h
    exact ⟨e, by simpa using h1, h2⟩
def wRetFO (i : Nat) : WS := fun D δ _ => lookL δ i D.rf
/-- x, xs = e, [..] -/
def wParO (i j : Nat) (wa wb : WE) : WS := fun D δ e => wa δ (fun a => wb δ (fun b => match b with | .lst l => D.nx ((δ.set i (some (.val a))).set j (some (.own l))) | _ => False) e) e
def wApp (i : Nat) (w : WE) : WS := fun D δ e => lookL δ i fun l => w δ (fun d => l.length < sizeLine ∧ D.nx (δ.set i (some (.own (l ++ [d]))))) e
/-- xs.extend(l) -/
def wExt (i : Nat) (w : WE) : WS := fun D δ e => lookL δ i fun l => w δ (fun d => match d with | .lst r => l.length + r.length ≤ sizeLine ∧ D.nx (δ.set i (some (.own (l ++ r)))) | _ => False) e
def wFrz (i : Nat) (b : WS) : WS := fun D δ e => lookL δ i fun l => b D (δ.set i (some (.val (.lst l)))) e
/-- name op= e, ints -/
def wAugI (f : Int → Int → Int) (i : Nat) (w : WE) : WS := fun D δ e => look δ i fun x => w δ (fun y => match x, y with | .int a, .int b => D.nx (δ.set i (some (.val (.int (f a b))))) | _, _ => False) e
/-- xs[j] = e, xs[j] op= e (ints), xs the frame's own -/
def setAt (l : List Dt) (i : Int) (d : Dt) : Option (List Dt) := if 0 ≤ i then (if i < l.length then some (l.set i.toNat d) else none) else if -(l.length : Int) ≤ i then some (l.set (i + l.length).toNat d) else none
def wSetIx (i : Nat) (wj w : WE) : WS := fun D δ e => lookL δ i fun l => w δ (fun d => wj δ (fun j => match j with | .int j => ∃ l', setAt l j d = some l' ∧ D.nx (δ.set i (some (.own l'))) | _ => False) e) e
def wAugIx (f : Int → Int → Int) (i : Nat) (wj w : WE) : WS := fun D δ e => lookL δ i fun l => wj δ (fun j => match j with | .int j => ∃ a, atD l j = some (.int a) ∧ w δ (fun d => match d with | .int b => ∃ l', setAt l j (.int (f a b)) = some l' ∧ D.nx (δ.set i (some (.own l'))) | _ => False) e | _ => False) e
section
variable {X : Cx} {S : Su} {E : XK} {w wa wj : WE} {a b : WS} {c : WT} {g : WG} {wi : WI} {x y : Expr} {st : Stmt} {body rest : List Stmt} {i j : Nat} {pos : Pos} {is : List Nat}
theorem xsNil : PSs X [] (tPS S E wNx) := pssTo pss_nil fun D σ H ⟨M, A, L, δ, DP, e, f, hw, a⟩ => a.nx L δ σ H .refl f hw
theorem xsDoc (h : PS X st tNext) : PS X st (tPS S E wNx) := psTo h fun D σ H ⟨M, A, L, δ, DP, e, f, hw, a⟩ => a.nx L δ σ H .refl f hw
theorem xsBk (h : PS X st tBreak) : PS X st (tPS S E wBk) := psTo h fun D σ H ⟨M, A, L, δ, DP, e, f, hw, a⟩ => a.bk L δ σ H .refl f hw
theorem xsCt (h : PS X st tCont) : PS X st (tPS S E wCt) := psTo h fun D σ H ⟨M, A, L, δ, DP, e, f, hw, a⟩ => a.ct L δ σ H .refl f hw
theorem xsNev : PS X st (tPS S E wNev) := psTo ps_never fun D σ H ⟨M, A, L, δ, DP, e, f, hw, a⟩ => hw
theorem xsCons (h1 : PS X st (tPS S E a)) (h2 : PSs X rest (tPS S E b)) : PSs X (st :: rest) (tPS S E (wSeq a b)) := pssTo (pss_cons h1 h2) fun D σ H ⟨M, A, L, δ, DP, e, f, hw, a⟩ =>
  ⟨M, A, L, δ, _, e, f, hw, fun L' δ' σ' H' s f' hk => ⟨M, A, L', δ', DP, e, f', hk, a.step s f'.mu⟩, a.rt, a.bk, a.ct, a.ex, a.rf⟩
theorem xsOne (h1 : PS X st (tPS S E a)) : PSs X [st] (tPS S E a) := pss_one h1
theorem xsFrz (h : PSs X body (tPS S E b)) : PSs X body (tPS S E (wFrz i b)) := pssTo h fun D σ H ⟨M, A, L, δ, DP, e, f, hw, a⟩ => by
  obtain ⟨l, e1, hk⟩ := lookL_of hw
  obtain ⟨L', f', s, _⟩ := f.freeze i e1
  exact ⟨M, A, L', _, DP, e, f', hk, a.step s f'.mu⟩
theorem xsEx (h : PE X x (tPW S E w)) (hs : swapsWith x none pos.line X.env = pure false := by rfl) : PS X (.Expr x pos) (tPS S E (wEx w)) := psTo (ps_expr h hs) fun D σ H ⟨M, A, L, δ, DP, e, f, hw, a⟩ =>
  ⟨M, A, L, δ, _, e, f, hw, fun v d H1 s m _ hk => a.nx L δ σ H1 s.wide (f.step s m) hk, a.ex.x⟩
theorem xsSet {n : Str} {pos' : Pos} (hN : X.N.Nodup) (hi : X.N[i]? = some n) (hx : Loc X.env.scope n) (h : PE X x (tP S E w)) (hs : swapsWith x (some (.Name n pos')) pos.line X.env = pure false := by rfl) (hf : X.fn n = true ∨ X.env.scope.names.lookup n = some .local := by first | exact .inl rfl | exact .inr rfl | assumption) :
    PS X (.Assign [.Name n pos'] x pos) (tPS S E (wSet i w)) := psTo (ps_set hN hi hx h hs hf) fun D σ H ⟨M, A, L, δ, DP, e, f, hw, a⟩ =>
  ⟨M, A, L, δ, _, e, f, hw, fun v d H1 s m hv hk => a.nx L _ _ H1 s.wide ((f.step s m).set i hv) hk, a.ex.x⟩
theorem ownT : ∀ D σ H, tPS S E (wOwn i w) D σ H → tAsg (tPF S E w) (gName i) D σ H := fun D σ H ⟨M, A, L, δ, DP, e, f, hw, a⟩ =>
  ⟨M, A, L, δ, _, e, f, hw, fun p vs ds H1 n s m ep hv hk => a.nx (p :: L) _ _ H1 ⟨fun b o nM nL q => s.keep b o nM (by simp) q, fun q hq => (List.mem_cons.mp hq).elim (fun z => .inr (by rw [z]; exact n)) .inl⟩ (f.setOwn i n s m ep hv) hk, a.ex.x⟩
theorem setT : ∀ D σ H, tPS S E (wSet i w) D σ H → tAsg (tP S E w) (gName i) D σ H := fun D σ H ⟨M, A, L, δ, DP, e, f, hw, a⟩ =>
  ⟨M, A, L, δ, _, e, f, hw, fun v d H1 s m hv hk => a.nx L _ _ H1 s.wide ((f.step s m).set i hv) hk, a.ex.x⟩
theorem xsOwn {n : Str} {pos' : Pos} (hN : X.N.Nodup) (hi : X.N[i]? = some n) (hx : Loc X.env.scope n) (h : PE X x (tPF S E w)) (hs : swapsWith x (some (.Name n pos')) pos.line X.env = pure false := by rfl) (hf : X.fn n = true ∨ X.env.scope.names.lookup n = some .local := by first | exact .inl rfl | exact .inr rfl | assumption) :
    PS X (.Assign [.Name n pos'] x pos) (tPS S E (wOwn i w)) := psTo (ps_set hN hi hx h hs hf) ownT
theorem xsAsg {tg : Expr} (h : PE X x (tP S E w)) (hg : PG X tg (tPG S is g)) (hs : swapsWithSole [tg] x pos.line X.env = pure false := by rfl) (hw : swappedStores [tg] x X.env = pure none := by rfl) (h1 : (assignEach [tg] X.env).map (·.2) = [assign tg X.env] := by rfl) : PS X (.Assign [tg] x pos) (tPS S E (wAsg w g)) :=
  psTo (ps_asg h hg hs hw h1) fun D σ H ⟨M, A, L, δ, DP, e, f, hw, a⟩ =>
  ⟨M, A, L, δ, _, e, f, hw, fun v d H1 s m hv hk => ⟨M, A, L, δ, d, DP.nx, f.step s m, hv, hk, fun σ' δ' f' _ hk' => a.nx L δ' σ' H1 s.wide f' hk'⟩, a.ex.x⟩
theorem xsPar {nx ny : Str} {wp : WA} {px py pt : Pos} {kt k2 pt2} (hc : X.calm = true) (hN : X.N.Nodup) (hi : X.N[i]? = some nx) (hj : X.N[j]? = some ny) (hij : i ≠ j)
    (hx : X.env.scope.names.lookup nx = some .local) (hy : X.env.scope.names.lookup ny = some .local) (ha : PA X [x, y] (tPA S E wp))
    (hw : swappedStores [.Tuple [.Name nx px, .Name ny py] kt pt] (.Tuple [x, y] k2 pt2) X.env = pure (some [nx, ny]))
    (hs : swapsWithSole [.Tuple [.Name nx px, .Name ny py] kt pt] (.Tuple [x, y] k2 pt2) pos.line X.env = pure false := by rfl) :
    PS X (.Assign [.Tuple [.Name nx px, .Name ny py] kt pt] (.Tuple [x, y] k2 pt2) pos) (tPS S E (wPar i j wp)) := psTo (ps_par hc hN hi hj hij hx hy ha hw hs) fun D σ H ⟨M, A, L, δ, DP, e, f, hw, a⟩ =>
  ⟨M, A, L, δ, _, e, f, hw, fun vs ds H1 s m hv hk => by
    match ds, hk with
    | [p, q], hk =>
      obtain ⟨v, ws, rfl, h1, r⟩ := hv.of_cons
      obtain ⟨u, us, rfl, h2, r2⟩ := r.of_cons
      rw [r2.of_nil]
      exact ⟨v, u, rfl, a.nx L _ _ H1 s.wide (((f.step s m).set i h1).set j h2) hk⟩, a.ex.x⟩
theorem xsRet (h : PE X x (tPW S E w)) : PS X (.Return (some x) pos) (tPS S E (wRet w)) := psTo (ps_ret h) fun D σ H ⟨M, A, L, δ, DP, e, f, hw, a⟩ =>
  ⟨M, A, L, δ, _, e, f, hw, fun v d H1 s m hv hk => a.rt L v d H1 s.wide m (hv.out f.dis) hk, a.ex.x⟩
theorem xsRetF (h : PE X x (tPF S E w)) : PS X (.Return (some x) pos) (tPS S E (wRetF w)) := psTo (ps_ret h) fun D σ H ⟨M, A, L, δ, DP, e, f, hw, a⟩ =>
  ⟨M, A, L, δ, _, e, f, hw, fun p vs ds H1 n s m ep hv hk => a.rf p vs ds H1 ⟨L, s.wide⟩ m (.inl n) ep (hv.same (hv_sub fun x hx => by
    rcases List.mem_cons.mp hx with z | z
    · rw [z]; exact List.mem_cons_self
    · exact List.mem_cons_of_mem _ (List.mem_append_right _ z))) hk, a.ex.x⟩
theorem xsRetFO (h : PE X x (tVar i)) : PS X (.Return (some x) pos) (tPS S E (wRetFO i)) := psTo (ps_ret h) fun D σ H ⟨M, A, L, δ, DP, e, f, hw, a⟩ => by
  obtain ⟨l, e1, hk⟩ := lookL_of hw
  obtain ⟨p, vs, e2, pL, e3, q⟩ := f.own i l e1
  exact ⟨.ref p, e2, a.rf p vs l H ⟨L, .refl⟩ f.mu (.inr pL) e3 (q.same (hv_sub fun x hx => by
    rcases List.mem_cons.mp hx with z | z
    · rw [z]; exact List.mem_append_left _ pL
    · exact List.mem_append_right _ z)) hk⟩
theorem xsParO {nx ny : Str} {px py pt : Pos} {kt k2 pt2} (hc : X.calm = true) (hN : X.N.Nodup) (hi : X.N[i]? = some nx) (hj : X.N[j]? = some ny) (hij : i ≠ j)
    (hx : X.env.scope.names.lookup nx = some .local) (hy : X.env.scope.names.lookup ny = some .local) (ha : PE X x (tP S E w)) (hb : PE X y (tPF S E wa))
    (hw : swappedStores [.Tuple [.Name nx px, .Name ny py] kt pt] (.Tuple [x, y] k2 pt2) X.env = pure (some [nx, ny]))
    (hs : swapsWithSole [.Tuple [.Name nx px, .Name ny py] kt pt] (.Tuple [x, y] k2 pt2) pos.line X.env = pure false := by rfl) (he : starEach [x, y] X.env = (false, eval x X.env) :: starEach [y] X.env := by rfl) (he2 : starEach [y] X.env = (false, eval y X.env) :: starEach [] X.env := by rfl) :
    PS X (.Assign [.Tuple [.Name nx px, .Name ny py] kt pt] (.Tuple [x, y] k2 pt2) pos) (tPS S E (wParO i j w wa)) := psTo (ps_par hc hN hi hj hij hx hy (pa_cons ha (pa_cons hb pa_nil he2) he) hw hs) fun D σ H ⟨M, A, L, δ, DP, e, f, hw, a⟩ =>
  ⟨M, A, L, δ, _, e, f, hw, fun v d H1 s1 m1 hv hk => ⟨M, A, L, δ, _, e, f.step s1 m1, hk, fun p vs ds H2 n s2 m2 ep hvs hk2 => by
    have f1 := (f.step s1 m1).set i hv
    have ff := f1.setOwn j n s2 m2 ep hvs
    exact ⟨v, .ref p, rfl, a.nx (p :: L) _ _ H2 ((s1.wide).trans m1 ⟨fun b o nM nL q => s2.keep b o nM (by simp) q, fun q hq => (List.mem_cons.mp hq).elim (fun z => .inr (by rw [z]; exact n)) .inl⟩) ff hk2⟩, a.ex.step s1.wide m1 |>.x⟩, a.ex.x⟩
theorem xsRetN : PS X (.Return none pos) (tPS S E wRetN) := psTo ps_retN fun D σ H ⟨M, A, L, δ, DP, e, f, hw, a⟩ => a.rt L .non .non H .refl f.mu .non hw
theorem xsIf {t : Expr} {p q : List Stmt} (hc : PT X t (tPT S E c)) (ha : PSs X p (tPS S E a)) (hb : PSs X q (tPS S E b)) : PS X (.If t p q pos) (tPS S E (wIfS c a b)) := psTo (ps_if hc ha hb) fun D σ H ⟨M, A, L, δ, DP, e, f, hw, ad⟩ =>
  ⟨M, A, L, δ, _, e, f, hw, fun r H1 s m hk => by
    cases r with
    | true => exact (if_pos rfl).mpr ⟨M, A, L, δ, DP, e, f.step s m, hk, ad.step s.wide m⟩
    | false => exact (if_neg Bool.false_ne_true).mpr ⟨M, A, L, δ, DP, e, f.step s m, hk, ad.step s.wide m⟩, ad.ex.x⟩
theorem xsWhile (hp : PassesOwn (model X.prog X.w) X.A X.env X.xe) (hc : PT X x (tPT S E c)) (hb : PSs X body (tPS S E b)) : PS X (.While x body [] pos) (tPS S E (wWhile c b)) := psTo (ps_while hp hc hb) fun D σ H ⟨M, A, L, δ, DP, e, f, ⟨n, hw⟩, ad⟩ => by
  refine ⟨fun m σ' H' => ∃ L' δ', Fr S M A L' σ' δ' H' ∧ Stp M L H L' H' ∧ whN c b DP e m δ', ⟨n, L, δ, f, .refl, hw⟩, ?_⟩
  rintro m σ' H' ⟨L', δ', f', s', hw'⟩
  cases m with
  | zero => exact hw'.elim
  | succ m =>
    have ad' := ad.step s' f'.mu
    refine ⟨M, A, L', δ', _, e, f', hw', fun r H1 s1 m1 hk => ?_, ad'.ex.x⟩
    cases r with
    | true =>
      refine (if_pos rfl).mpr ⟨fun σ2 H2 => ∃ L2 δ2, Fr S M A L2 σ2 δ2 H2 ∧ Stp M L H L2 H2 ∧ whN c b DP e m δ2, fun σ2 H2 h2 => ⟨m, Nat.lt_succ_self m, h2⟩, M, A, L', δ', _, e, f'.step s1 m1, hk, ?_⟩
      have ad2 := ad'.step s1.wide m1
      have s2 := s'.trans f'.mu s1.wide
      exact ⟨fun L3 δ3 σ3 H3 s3 f3 h3 => ⟨L3, δ3, f3, s2.trans m1 s3, h3⟩, ad2.rt, ad2.nx, fun L3 δ3 σ3 H3 s3 f3 h3 => ⟨L3, δ3, f3, s2.trans m1 s3, h3⟩, ad2.ex, ad2.rf⟩
    | false => exact (if_neg Bool.false_ne_true).mpr (ad'.nx L' δ' σ' H1 s1.wide (f'.step s1 m1) hk)
theorem xsFor {tg : Expr} (hp : PassesOwn (model X.prog X.w) X.A X.env X.xe) (hc : X.calm = true) (hi : PI X tg x (tPI S E wi)) (hg : PG X tg (tPG S is g)) (hb : PSs X body (tPS S E b)) (hs : ∀ y, foldedSetIterable x X.env y = pure y := by intro _; rfl) :
    PS X (.For tg x body [] pos) (tPS S E (wFor wi g b)) := psTo (ps_for hp hc hi hg hb hs) fun D σ H ⟨M, A, L, δ, DP, e, f, hw, ad⟩ =>
  ⟨M, A, L, δ, _, e, f, hw, fun J ds G H1 s1 m1 it hG hk => by
    refine ⟨fun i m σ' H' => m = ds.length - i ∧ i ≤ ds.length ∧ ∃ L' δ', Fr S M A L' σ' δ' H' ∧ Stp M L H L' H' ∧ G (L' ++ A) H' ∧ forL g b DP e (ds.drop i) δ', ⟨_, rfl, Nat.zero_le _, L, δ, f.step s1 m1, s1.wide, hG, hk⟩, ?_⟩
    rintro i m σ' H' ⟨rfl, hi, L', δ', f', s', g', hk'⟩
    have ad' := ad.step s' f'.mu
    by_cases hlt : i < ds.length
    · refine .inr ⟨it.goes i _ H' hlt g', fun σ2 H2 => ∃ L2 δ2, Fr S M A L2 σ2 δ2 H2 ∧ Stp M L H L2 H2 ∧ G (L2 ++ A) H2 ∧ forL g b DP e (ds.drop (i + 1)) δ2, fun σ2 H2 h2 => ⟨_, by omega, rfl, hlt, h2⟩, fun v H2 yy => ?_⟩
      obtain ⟨sx, hx⟩ := it.yields i _ H' v H2 (ds[i]) (List.getElem?_eq_getElem hlt) g' f'.hd yy
      rw [List.drop_eq_getElem_cons hlt] at hk'
      have f2 := f'.step (.of sx) (f'.mu.same sx)
      refine ⟨M, A, L', δ', ds[i], _, f2, hx, hk', fun σ3 δ3 f3 _ hk3 => ⟨M, A, L', δ3, _, e, f3, hk3, ?_⟩⟩
      have ad2 := ad'.step (Stp.of sx) f2.mu
      have s2 := s'.trans f'.mu (Stp.of sx)
      have nxt : ∀ L4 δ4 σ4 H4, Stp M L' H2 L4 H4 → Fr S M A L4 σ4 δ4 H4 → forL g b DP e (ds.drop (i + 1)) δ4 → ∃ L2 δ2, Fr S M A L2 σ4 δ2 H4 ∧ Stp M L H L2 H4 ∧ G (L2 ++ A) H4 ∧ forL g b DP e (ds.drop (i + 1)) δ2 := fun L4 δ4 σ4 H4 s4 f4 h4 =>
        ⟨L4, δ4, f4, s2.trans f2.mu s4, it.mono _ _ _ _ ((Go.hv (Go.of sx)).trans (s4.hv f.mA)) g', h4⟩
      exact ⟨nxt, ad2.rt, ad2.nx, nxt, ad2.ex, ad2.rf⟩
    · have ei : i = ds.length := by omega
      subst ei
      rw [List.drop_length] at hk'
      exact .inl ⟨it.stops _ H' g', ad'.nx L' δ' σ' H' .refl f' hk'⟩, ad.ex.x⟩
theorem xsApp {K : PySem.W.Frag} (h : PE X x (tBM K "list" rAppend (tVar i) (tCons (tP S E w) tNil))) (hs : swapsWith x none pos.line X.env = pure false := by rfl) : PS X (.Expr x pos) (tPS S E (wApp i w)) :=
  psTo (ps_expr h hs) fun D σ H ⟨M, A, L, δ, DP, e, f, hw, ad⟩ => by
  obtain ⟨l, e1, hw⟩ := lookL_of hw
  obtain ⟨p, vs, e2, pL, e3, q⟩ := f.own i l e1
  refine ⟨.ref p, e2, .inl ⟨rfl, vs, .inl (.inl e3)⟩, M, A, L, δ, _, e, f, hw, fun v d H1 s m hv hk => ?_, ad.ex.x⟩
  have e4 := s.keep p _ (f.notM pL) (by simp) e3
  obtain ⟨f2, s2⟩ := (f.step s m).chg i e1 e2 ((q.same ((Stp.wide s).hv f.mA)).app (.cons hv .nil))
  exact ⟨p, vs, v, rfl, rfl, e4, by rw [q.len]; exact hk.1, ad.nx L _ _ _ (s.wide.trans m s2) f2 hk.2⟩
theorem xsExt {K : PySem.W.Frag} (h : PE X x (tBM K "list" rExtend (tVar i) (tCons (tP S E w) tNil))) (hs : swapsWith x none pos.line X.env = pure false := by rfl) : PS X (.Expr x pos) (tPS S E (wExt i w)) :=
  psTo (ps_expr h hs) fun D σ H ⟨M, A, L, δ, DP, e, f, hw, ad⟩ => by
  obtain ⟨l, e1, hw⟩ := lookL_of hw
  obtain ⟨p, vs, e2, pL, e3, q⟩ := f.own i l e1
  refine ⟨.ref p, e2, .inl ⟨rfl, vs, .inl (.inl e3)⟩, M, A, L, δ, _, e, f, hw, fun v d H1 s m hv hk => ?_, ad.ex.x⟩
  have e4 := s.keep p _ (f.notM pL) (by simp) e3
  cases d with
  | lst r =>
    obtain ⟨b, ws, rfl, eb, q2⟩ := hv.list
    obtain ⟨f2, s2⟩ := (f.step s m).chg i e1 e2 ((q.same ((Stp.wide s).hv f.mA)).app q2)
    exact ⟨p, b, vs, ws, rfl, rfl, e4, hv_le _ _ eb, by rw [q.len, q2.len]; exact hk.1, ad.nx L _ _ _ (s.wide.trans m s2) f2 hk.2⟩
  | _ => exact hk.elim
theorem xsAugI {f : Int → Int → Int} {n : Str} {op : Operator} {pos' : Pos} (hN : X.N.Nodup) (hi : X.N[i]? = some n) (hx : Loc X.env.scope n) (h : PE X x (tP S E w)) (ho : PIp X op (ipI f)) (hf : X.fn n = true ∨ X.env.scope.names.lookup n = some .local := by first | exact .inl rfl | exact .inr rfl | assumption) :
    PS X (.AugAssign (.Name n pos') op x pos) (tPS S E (wAugI f i w)) := psTo (ps_aug hN hi hx h ho hf) fun D σ H ⟨M, A, L, δ, DP, e, fr, hw, ad⟩ => by
  obtain ⟨d0, e1, hw⟩ := look_of hw
  obtain ⟨v0, e2, h0⟩ := fr.val i d0 e1
  refine ⟨v0, e2, M, A, L, δ, _, e, fr, hw, fun v d H1 s m hv hk => ?_, ad.ex.x⟩
  cases d0 with
  | int a =>
    cases d with
    | int b => exact ⟨a, b, h0.int_eq, hv.int_eq, ad.nx L _ _ H1 s.wide ((fr.step s m).set i (.int _)) hk⟩
    | _ => exact hk.elim
  | _ => cases d <;> exact hk.elim
theorem setAt_of {l l' : List Dt} {k : Int} {d : Dt} (h : setAt l k d = some l') {n : Nat} (hn : n = l.length) : ∃ j, ixN n k = some j ∧ l' = l.set j d := by
  subst hn
  unfold setAt at h
  unfold ixN
  split at h
  · rename_i h0
    rw [if_pos h0]
    split at h
    · rename_i h1
      rw [if_pos h1]
      cases h
      exact ⟨_, rfl, rfl⟩
    · cases h
  · rename_i h0
    rw [if_neg h0]
    split at h
    · rename_i h1
      rw [if_pos h1]
      cases h
      exact ⟨_, rfl, rfl⟩
    · cases h
theorem das_set {M : Mu} {H : Hp} {vs : List V} {ds : List Dt} {v : V} {d : Dt} (h : Das S M H vs ds) (hv : Da S M H v d) (j : Nat) : Das S M H (vs.set j v) (ds.set j d) :=
  ⟨by rw [List.length_set, List.length_set, h.len], fun i u c h1 h2 => by
    by_cases z : j = i
    · subst z
      have l1 : j < vs.length := by
        have := (List.getElem?_eq_some_iff.mp h1).1
        rwa [List.length_set] at this
      rw [List.getElem?_set_self l1] at h1
      rw [List.getElem?_set_self (by rw [← h.len]; exact l1)] at h2
      cases h1
      cases h2
      exact hv
    · rw [List.getElem?_set_ne z] at h1 h2
      exact h.all i u c h1 h2⟩
theorem xsSetIx {tg : Expr} (h : PE X x (tP S E w)) (hg : PG X tg (L2.gSub (tVar i) (tP S E wj) rSetL)) (hs : swapsWithSole [tg] x pos.line X.env = pure false := by rfl) (hw : swappedStores [tg] x X.env = pure none := by rfl) (h1 : (assignEach [tg] X.env).map (·.2) = [assign tg X.env] := by rfl) :
    PS X (.Assign [tg] x pos) (tPS S E (wSetIx i wj w)) := psTo (ps_asg h hg hs hw h1) fun D σ H ⟨M, A, L, δ, DP, e, f, hw, ad⟩ => by
  obtain ⟨l, e1, hw⟩ := lookL_of hw
  refine ⟨M, A, L, δ, _, e, f, hw, fun v d H1 s m hv hk => ?_, ad.ex.x⟩
  have f1 := f.step s m
  obtain ⟨p, vs, e2, pL, e3, q⟩ := f1.own i l e1
  refine ⟨.ref p, e2, M, A, L, δ, _, e, f1, hk, fun u c H2 s2 m2 hu hk2 => ?_, (ad.step s.wide m).ex.x⟩
  cases c with
  | int j =>
    obtain ⟨l', es, hk3⟩ := hk2
    obtain ⟨jj, ej, rfl⟩ := setAt_of es q.len
    have e4 := s2.keep p _ (f.notM pL) (by simp) e3
    obtain ⟨f2, s3⟩ := (f1.step s2 m2).chg i e1 e2 (das_set (q.same ((Stp.wide s2).hv f.mA)) (hv.same ((Stp.wide s2).hv f.mA)) jj)
    exact ⟨p, vs, j, jj, rfl, hu.int_eq, e4, ej, ad.nx L _ _ _ ((s.wide.trans m s2.wide).trans m2 s3) f2 hk3⟩
  | _ => exact hk2.elim
theorem xsAugIx {f : Int → Int → Int} (h : PS X st (tAugS (tVar i) (tP S E wj) (tP S E w) (rIxL S.K) (ipI f) rSetL)) : PS X st (tPS S E (wAugIx f i wj w)) := psTo h fun D σ H ⟨M, A, L, δ, DP, e, fr, hw, ad⟩ => by
  obtain ⟨l, e1, hw⟩ := lookL_of hw
  obtain ⟨p, vs, e2, pL, e3, q⟩ := fr.own i l e1
  refine ⟨.ref p, e2, M, A, L, δ, _, e, fr, hw, fun u c H1 s m hu hk => ?_, ad.ex.x⟩
  have fr1 := fr.step s m
  have e3' := s.keep p _ (fr.notM pL) (by simp) e3
  have q1 := q.same ((Stp.wide s).hv fr.mA)
  cases c with
  | int j =>
    obtain ⟨a, ea, hk⟩ := hk
    obtain ⟨v0, ev, hv0⟩ := get_das q1 ea
    refine ⟨p, vs, j, v0, rfl, hu.int_eq, .inl (.inl e3'), ev, M, A, L, δ, _, e, fr1, hk, fun v d H2 s2 m2 hv hk2 => ?_, (ad.step s.wide m).ex.x⟩
    cases d with
    | int b =>
      obtain ⟨l', es, hk3⟩ := hk2
      obtain ⟨jj, ej, rfl⟩ := setAt_of es q.len
      have e4 := s2.keep p _ (fr.notM pL) (by simp) e3'
      obtain ⟨f2, s3⟩ := (fr1.step s2 m2).chg i e1 e2 (das_set (q1.same ((Stp.wide s2).hv fr.mA)) (.int (f a b)) jj)
      exact ⟨a, b, hv0.int_eq, hv.int_eq, p, vs, j, jj, rfl, hu.int_eq, e4, ej, ad.nx L _ _ _ ((s.wide.trans m s2.wide).trans m2 s3) f2 hk3⟩
    | _ => exact hk2.elim
  | _ => exact hk.elim
end
/-! ### defs -/
def wFn (N : Nat) (w : WS) : SpF := fun ds k _ => w { nx := fun _ => k .non, rt := k } (ds.map (fun d => some (.val d)) ++ List.replicate (N - ds.length) none) nE
/-- .. of a def that may raise -/
def wFnX (N : Nat) (w : WS) : SpF := fun ds k e => w { nx := fun _ => k .non, rt := k } (ds.map (fun d => some (.val d)) ++ List.replicate (N - ds.length) none) e
theorem fr_start {S : Su} {M : Mu} {A : List Addr} {H : Hp} {vs : List V} {ds : List Dt} {n N : Nat} {ns : List Str} (hN : ns.length = N) (hd : Hd A H) (mA : ∀ x ∈ M, x.1 ∈ A) (m : MOk S M H) (h : Das S M (hv A H) vs ds) :
    Fr S M A [] (L2.start ns vs) (ds.map (fun d => some (.val d)) ++ List.replicate (N - ds.length) none) H := by
  have own : ∀ (i : Nat) (l : List Dt), (ds.map (fun d => some (Sl.val d)) ++ List.replicate (N - ds.length) none)[i]? ≠ some (some (Sl.own l)) := fun i l z => by
    rcases Nat.lt_or_ge i ds.length with y | y
    · rw [List.getElem?_append_left (by simpa using y), List.getElem?_map] at z
      cases q : ds[i]? with
      | none => rw [q] at z; cases z
      | some d => rw [q] at z; cases z
    · rw [List.getElem?_append_right (by simpa using y), List.getElem?_replicate] at z
      split at z <;> cases z
  refine ⟨?_, hd, fun p z => (by cases z), mA, m, fun i d e => ?_, fun i l e => absurd e (own i l), fun i j l _ _ e => absurd e (own i l)⟩
  · unfold L2.start
    rw [List.length_append, List.length_append, List.length_map, List.length_map, List.length_replicate, List.length_replicate, h.len, hN]
  · rcases Nat.lt_or_ge i ds.length with y | y
    · rw [List.getElem?_append_left (by simpa using y), List.getElem?_map] at e
      cases q : ds[i]? with
      | none => rw [q]
            at e; cases e
      | some d' =>
        rw [q] at e
        cases e
        obtain ⟨v, e1, hv⟩ := h.get q
        refine ⟨v, ?_, hv⟩
        unfold L2.start
        rw [List.getElem?_append_left (by rw [List.length_map, h.len]; exact y), List.getElem?_map, e1]
        rfl
    · rw [List.getElem?_append_right (by simpa using y), List.getElem?_replicate] at e
      split at e <;> cases e
theorem spW_len {S : Su} {n : Nat} {w : SpF} : ∀ vs H Q E, spW S n w vs H Q E → vs.length = n := fun _ _ _ _ ⟨_, _, _, _, _, l, _⟩ => l
theorem fnT {S : Su} {E' : XK} {w : WS} {ns : List Str} {vs : List V} {H : Hp} {Q : VK} {E : XK} {n : Nat} (h : spW S n (wFn ns.length w) vs H Q E) : tPS S E' w { nx := fun _ H' => Q .non H', rt := Q } (L2.start ns vs) H := by
  obtain ⟨M, A, ds, k, e, ln, hd, mA, m, hv, hw, a, ax⟩ := h
  refine ⟨M, A, [], _, _, nE, fr_start (n := n) rfl hd mA m hv, hw, ?_, ?_, fun _ _ _ _ _ _ z => z.elim, fun _ _ _ _ _ _ z => z.elim, fun _ _ _ _ _ _ _ _ z => z.elim, fun _ _ _ _ _ _ _ _ _ z => z.elim⟩
  · intro L' δ' σ' H' s f hk
    exact a .non .non H' ⟨fun b o n1 _ q => s.keep b o n1 (by simp) q, fun _ z => by cases z⟩ f.mu .non hk
  · intro L' v d H' s m' hv' hk
    exact a v d H' ⟨fun b o n1 _ q => s.keep b o n1 (by simp) q, fun _ z => by cases z⟩ m' hv' hk
theorem fnTX {S : Su} {w : WS} {ns : List Str} {vs : List V} {H : Hp} {Q : VK} {E : XK} {n : Nat} (h : spW S n (wFnX ns.length w) vs H Q E) : tPS S E w { nx := fun _ H' => Q .non H', rt := Q } (L2.start ns vs) H := by
  obtain ⟨M, A, ds, k, e, ln, hd, mA, m, hv, hw, a, ax⟩ := h
  refine ⟨M, A, [], _, _, e, fr_start (n := n) rfl hd mA m hv, hw, ?_, ?_, fun _ _ _ _ _ _ z => z.elim, fun _ _ _ _ _ _ z => z.elim, ?_, fun _ _ _ _ _ _ _ _ _ z => z.elim⟩
  · intro L' δ' σ' H' s f hk
    exact a .non .non H' ⟨fun b o n1 _ q => s.keep b o n1 (by simp) q, fun _ z => by cases z⟩ f.mu .non hk
  · intro L' v d H' s m' hv' hk
    exact a v d H' ⟨fun b o n1 _ q => s.keep b o n1 (by simp) q, fun _ z => by cases z⟩ m' hv' hk
  · intro L' x c dd H' s m' hx he
    exact ax x c dd H' ⟨fun b o n1 _ q => s.keep b o n1 (by simp) q, fun _ z => by cases z⟩ m' hx he
/-- .. of a def that gives a list back which nothing else knows -/
def wFnF (N : Nat) (w : WS) : SpF := fun ds k _ => w { nx := fun _ => False, rt := fun _ => False, rf := fun l => k (.lst l) } (ds.map (fun d => some (.val d)) ++ List.replicate (N - ds.length) none) nE
def spWF (S : Su) (n : Nat) (w : SpF) : Sp := fun vs H Q E => ∃ (M : Mu) (A : List Addr) (ds : List Dt) (k : Dt → Prop) (e : Er → Prop), vs.length = n ∧ Hd A H ∧ (∀ x ∈ M, x.1 ∈ A) ∧ MOk S M H ∧ Das S M (hv A H) vs ds ∧ w ds k e ∧
  (∀ (p : Addr) (us : List V) (es : List Dt) (H' : Hp), H p = none → Stp M [] H [] H' → MOk S M H' → H' p = some (.lst us) → Das S M (hv (p :: A) H') us es → k (.lst es) → Q (.ref p) H')
theorem spWF_len {S : Su} {n : Nat} {w : SpF} : ∀ vs H Q E, spWF S n w vs H Q E → vs.length = n := fun _ _ _ _ ⟨_, _, _, _, _, l, _⟩ => l
theorem fnTF {S : Su} {E' : XK} {w : WS} {ns : List Str} {vs : List V} {H : Hp} {Q : VK} {E : XK} {n : Nat} (h : spWF S n (wFnF ns.length w) vs H Q E) : tPS S E' w { nx := fun _ H' => Q .non H', rt := Q } (L2.start ns vs) H := by
  obtain ⟨M, A, ds, k, e, ln, hd, mA, m, hv, hw, a⟩ := h
  refine ⟨M, A, [], _, _, nE, fr_start (n := n) rfl hd mA m hv, hw, fun _ _ _ _ _ _ z => z.elim, fun _ _ _ _ _ _ _ z => z.elim, fun _ _ _ _ _ _ z => z.elim, fun _ _ _ _ _ _ z => z.elim, fun _ _ _ _ _ _ _ _ z => z.elim, ?_⟩
  intro p us es H' ⟨L', s⟩ m' hp ep hv' hk
  exact a p us es H' (hp.elim id fun z => by cases z) ⟨fun b o n1 _ q => s.keep b o n1 (by simp) q, fun _ z => by cases z⟩ m' ep hv' hk
theorem spWF_mono {S : Su} {n : Nat} {w w' : SpF} (h : ∀ ds k e, ds.length = n → w' ds k e → w ds k e) : ∀ vs H Q E, spWF S n w' vs H Q E → spWF S n w vs H Q E := fun vs H Q E ⟨M, A, ds, k, e, ln, hd, mA, m, hv, hw, r⟩ =>
  ⟨M, A, ds, k, e, ln, hd, mA, m, hv, h ds k e (by rw [← hv.len, ln]) hw, r⟩
theorem spW_mono {S : Su} {n : Nat} {w w' : SpF} (h : ∀ ds k e, ds.length = n → w' ds k e → w ds k e) : ∀ vs H Q E, spW S n w' vs H Q E → spW S n w vs H Q E := fun vs H Q E ⟨M, A, ds, k, e, ln, hd, mA, m, hv, hw, r⟩ =>
  ⟨M, A, ds, k, e, ln, hd, mA, m, hv, h ds k e (by rw [← hv.len, ln]) hw, r⟩
section
variable {P : Program} {w : World} {K : PySem.W.Frag} {mg : Str
      → Option Value} {base : Heap}
theorem FnG.imp {CX : CXT} {k : Nat} {f : Addr} {fd : FuncData} {ps : List Str} {sp sp' : Sp} (F : FnG P w K mg base CX k f fd ps sp) (h : ∀ vs H Q E, sp' vs H Q E → sp vs H Q E) : FnG P w K mg base CX k f fd ps sp' :=
  ⟨fun vs H Q E q => F.args vs H Q E (h _ _ _ _ q), fun A outer s H given us vs Q E hr hq he hb hv hs => F.runs A outer s H given us vs Q E hr hq he hb hv (h _ _ _ _ hs)⟩
theorem CalG.imp {k : Nat} {x : Str} {sp sp' : Sp} {dvs : List V} (c : CalG P w K mg base k x sp dvs) (h : ∀ vs H Q E, sp' vs H Q E → sp vs H Q E) : CalG P w K mg base k x sp' dvs := by
  obtain ⟨f, fd, ps, ds, F, r⟩ := c.ex
  exact ⟨f, fd, ps, ds, F.imp h, r⟩
theorem Cal.imp {k : Nat} {x : Str} {sp sp' : Sp} {dvs : List V} (c : Cal P w K mg base k x sp dvs) (h : ∀ vs H Q E, sp' vs H Q E → sp vs H Q E) : Cal P w K mg base k x sp' dvs := by
  obtain ⟨f, fd, ps, ds, F, r⟩ := c.ex
  exact ⟨f, fd, ps, ds, FnOk.imp F h, r⟩
theorem Cal.g {k : Nat} {x : Str} {sp : Sp} {dvs : List V} (c : Cal P w K mg base k x sp dvs) : CalG P w K mg base k x sp dvs := by
  obtain ⟨f, fd, ps, ds, F, r⟩ := c.ex
  exact ⟨f, fd, ps, ds, FnG.of F, r⟩
/-- a def with plain parameters, by its body -/
theorem cal_of {S : Su} {x : Str} {st : Stmt} {N ps : List Str} {wb : WS} {k n : Nat} (DD : OwnDef K mg x st) (sc : FnScope N ps (defScope st)) (hn : n = ps.length)
    (bd : ∀ fd : FuncData, (∀ (f : Addr), Fun K x x st f fd → Binds K fd ps []))
    (body : ∀ (f : Addr) (cdv : Value) (A : Around) (outer : List Env) (s : Shared) (H : Hp) (E : XK), Room k (A.deeper (envOfC x (defScope st) s.heap.objs.size f cdv)) →
      PSs (cxOf CX0 P w K mg base N x (defScope st) f cdv A outer s H E).nox (defBody st) (tPS S E0' wb)) : Cal P w K mg base (k + 1) x (spW S n (wFn N.length wb)) [] := by
  obtain ⟨f, fd, F, hm⟩ := DD.ex
  exact ⟨f, fd, ps, [], F.ok sc (fun vs H Q E h => by rw [← hn]; exact spW_len vs H Q E h) (fun cdv A outer s H vs Q E hr h => ⟨_, body f cdv A outer s H E hr, fnT h⟩), hm, F.kp, bd fd f F, .nil⟩
/-- .. where nothing is being shown -/
theorem calG_of {S : Su} {x : Str} {st : Stmt} {N ps : List Str} {wb : WS} {k n : Nat} (DD : OwnDef K mg x st) (sc : FnScope N ps (defScope st)) (hn : n = ps.length)
    (bd : ∀ fd : FuncData, (∀ (f : Addr), Fun K x x st f fd → Binds K fd ps []))
    (body : ∀ (f : Addr) (cdv : Value) (A : Around) (outer : List Env) (s : Shared) (H : Hp) (E : XK), Room k (A.deeper (envOfC x (defScope st) s.heap.objs.size f cdv)) → A.guards = some [] →
      PSs (cxOf CX0 P w K mg base N x (defScope st) f cdv A outer s H E).nox (defBody st) (tPS S E0' wb)) : CalG P w K mg base (k + 1) x (spW S n (wFn N.length wb)) [] := by
  obtain ⟨f, fd, F, hm⟩ := DD.ex
  exact ⟨f, fd, ps, [], Fun_okG F sc (fun vs H Q E h => by rw [← hn]; exact spW_len vs H Q E h) (fun cdv A outer s H vs Q E hr hq h => ⟨_, body f cdv A outer s H E hr hq, fnT h⟩), hm, F.kp, bd fd f F, .nil⟩
end
end LW

set_option Elab.async false
set_option linter.all false
set_option maxRecDepth 100000
set_option maxHeartbeats 4000100
namespace LW
open L2 PySem.Spec PyProof.Rows PySem
/-- some of the items, by their places -/
def pickL {α : Type} (ix : List Nat) (xs : List α) : List α := ix.filterMap fun i => xs[i]?
theorem vals_at {xs : List V} {us : List Value} (h : Vals xs us) : ∀ i : Nat, (xs[i]? = none ∧ us[i]? = none) ∨ ∃ x u, xs[i]? = some x ∧ us[i]? = some u ∧ RelV x u := by
  induction h with
  | nil => intro i; exact .inl ⟨by simp, by simp⟩
  | cons r t ih =>
    intro i
    cases i with
    | zero => exact .inr ⟨_, _, rfl, rfl, r⟩
    | succ i => exact ih i
theorem vals_pick {xs : List V} {us : List Value} (h : Vals xs us) : ∀ ix : List Nat, Vals (pickL ix xs) (pickL ix us)
  | [] => .nil
  | i :: ix => by
    unfold pickL
    rw [List.filterMap_cons, List.filterMap_cons]
    rcases vals_at h i with ⟨a, b⟩ | ⟨x, u, a, b, r⟩
    · rw [a, b]; exact vals_pick h ix
    · rw [a, b]; exact .cons r (vals_pick h ix)
/-- a def that may be called by its name with keywords alone, ks in the order of the call; ix: where the parameters' values stand among them -/
structure CalP (P : Program) (w : World) (K : PySem.W.Frag) (mg : Str → Option Value) (base : Heap) (k : Nat) (x : Str) (ks : List Str) (ix : List Nat) (sp : Sp) : Prop where
  ex : ∃ (f : Addr) (fd : FuncData) (ps : List Str), FnOk P w K mg base CX0 k f fd ps sp ∧ mg x = some (.ref f) ∧ PySem.W.keepIn K (.ref f) = true ∧
    ∀ (s : Shared) (ws : List Value), K.In s.heap → (pickL ix ws).length = ps.length → ws.length = ks.length → BindsTo s fd ⟨[], ks.zip ws⟩ (ps.zip (pickL ix ws))
def tCallP (ix : List Nat) (n : Nat) (sp : Sp) (E : XK) (ta : TA) : TE := fun σ H Q => ta σ H fun vs H1 => vs.length = n ∧ sp (pickL ix vs) H1 Q E
section
variable {X : Cx} {k j : Nat} {x : Str} {sp : Sp} {p pos : Pos} {kws : List Keyword} {tk : TA} {ks : List Str} {ix : List Nat}
theorem pe_ckP (cl : CalP X.prog X.w X.K X.mg X.base k x ks ix sp) (hr : Room j X.A) (hk : k ≤ j) (hg : Gl X x) (hkw : PK X kws tk)
    (hdb : (x == ("__debug__" : Str)) = false := by decide)
    (hall : (backToKw pos (keywordEach kws X.env)).all (·.1.isSome) = true := by rfl)
    (hks : (backToKw pos (keywordEach kws X.env)).filterMap (·.1) = ks := by rfl)
    (hplain : ((backTo pos (starEach [] X.env)).any (·.1) || (backToKw pos (keywordEach kws X.env)).any (·.1.isNone)) = false := by rfl) :
    PE X (.Call (.Name x p) [] kws pos) (tCallP ix ks.length sp E0 tk) := by
  obtain ⟨f, fd, ps, F, m, kp, b⟩ := cl.ex
  constructor
  intro pins s σ H Q I h
  refine wpAny_Call_Name_kw (ld_glob I hg m ?_ hdb)
  refine PySem.W.callWith_KW0 (first := []) (h₀ := X.base) I.ok.mod.kin kp hall (thn (hkw.run pos pins s σ H _ I h) ?_) hplain
  rintro ws s2 ⟨zs, H2, I2, rz, ln, q2⟩
  refine ⟨I2.kIn, ?_⟩
  rw [hks]
  have rel := vals_pick rz ix
  have ln2 : (pickL ix ws).length = ps.length := by rw [← rel.length]; exact F.len _ _ _ _ q2
  refine wpAny_call (codeAny_mono (F.run X.A X.stack s2 H2 ⟨[], ks.zip ws⟩ (pickL ix ws) (pickL ix zs) Q E0 (hr.mono hk) I2.env0 (b s2 ws I2.kIn ln2 (by rw [← rz.length]; exact ln)) rel q2) ?_)
  intro res s' fin
  match res, fin with
  | .error er, fin => exact pass0 pins σ H2 s2 er s' I2 fin
  | .ok (.ret u), fin => exact I2.after fin
  | .ok .next, fin => exact fin.elim
  | .ok .brk, fin => exact fin.elim
  | .ok .cont, fin => exact fin.elim
end
end LW

set_option Elab.async false
set_option linter.all false
set_option maxRecDepth 100000
set_option maxHeartbeats 4000100
/-! calls of built-ins and of defs of one's own, fields, methods, told of plain data -/
namespace LW
open L2 PySem.Spec PyProof.Rows PySem
def intsOf : List Dt → Option (List Int)
  | [] => some []
  | .int i :: r => (intsOf r).map (i :: ·)
  | _ :: _ => none
def blsOf : List Dt → Option (List Bool)
  | [] => some []
  | .bl i :: r => (blsOf r).map (i :: ·)
  | _ :: _ => none
def strsOf : List Dt → Option (List Str)
  | [] => some []
  | .str i :: r => (strsOf r).map (i :: ·)
  | _ :: _ => none
theorem intsOf_map (l : List Int) : intsOf (l.map Dt.int) = some l := by
  induction l with
  | nil => rfl
  | cons a l ih => rw [List.map_cons, intsOf, ih]; rfl
theorem blsOf_map (l : List Bool) : blsOf (l.map Dt.bl) = some l := by
  induction l with
  | nil => rfl
  | cons a l ih => rw [List.map_cons, blsOf, ih]; rfl
theorem strsOf_map (l : List Str) : strsOf (l.map Dt.str) = some l := by
  induction l with
  | nil => rfl
  | cons a l ih => rw [List.map_cons, strsOf, ih]; rfl
theorem intsOf_eq : ∀ {l : List Dt} {ns : List Int}, intsOf l = some ns → l = ns.map Dt.int
  | [], ns, h => by cases h; rfl
  | .int i :: r, ns, h => by
    rw [intsOf] at h
    cases q : intsOf r with
    | none => rw [q] at h; cases h
    | some ms => rw [q] at h; cases h; rw [intsOf_eq q]; rfl
  | .non :: _, _, h => by cases h
  | .bl _ :: _, _, h => by cases h
  | .str _ :: _, _, h => by cases h
  | .lst _ :: _, _, h => by cases h
  | .tup _ :: _, _, h => by cases h
  | .dct :: _, _, h => by cases h
  | .ty _ :: _, _, h => by cases h
  | .tnk _ :: _, _, h => by cases h
  | .obj _ _ :: _, _, h => by cases h
  | .fn _ :: _, _, h => by cases h
theorem blsOf_eq : ∀ {l : List Dt} {ns : List Bool}, blsOf l = some ns → l = ns.map Dt.bl
  | [], ns, h => by cases h; rfl
  | .bl i :: r, ns, h => by
    rw [blsOf] at h
    cases q : blsOf r with
    | none => rw [q] at h; cases h
    | some ms => rw [q] at h; cases h; rw [blsOf_eq q]; rfl
  | .non :: _, _, h => by cases h
  | .int _ :: _, _, h => by cases h
  | .str _ :: _, _, h => by cases h
  | .lst _ :: _, _, h => by cases h
  | .tup _ :: _, _, h => by cases h
  | .dct :: _, _, h => by cases h
  | .ty _ :: _, _, h => by cases h
  | .tnk _ :: _, _, h => by cases h
  | .obj _ _ :: _, _, h => by cases h
  | .fn _ :: _, _, h => by cases h
theorem strsOf_eq : ∀ {l : List Dt} {ns : List Str}, strsOf l = some ns → l = ns.map Dt.str
  | [], ns, h => by cases h; rfl
  | .str i :: r, ns, h => by
    rw [strsOf] at h
    cases q : strsOf r with
    | none => rw [q] at h; cases h
    | some ms => rw [q] at h; cases h; rw [strsOf_eq q]; rfl
  | .non :: _, _, h => by cases h
  | .int _ :: _, _, h => by cases h
  | .bl _ :: _, _, h => by cases h
  | .lst _ :: _, _, h => by cases h
  | .tup _ :: _, _, h => by cases h
  | .dct :: _, _, h => by cases h
  | .ty _ :: _, _, h => by cases h
  | .tnk _ :: _, _, h => by cases h
  | .obj _ _ :: _, _, h => by cases h
  | .fn _ :: _, _, h => by cases h
/-! ### what the built-ins give -/
abbrev GC := List Dt → (Dt → Prop) → Prop
def gLen : GC
  | [.lst l], k => k (.int l.length)
  | [.tup l], k => k (.int l.length)
  | [.str x], k => x.length ≤ sizeLine ∧ k (.int x.length)
  | _, _ => False
def gAbs : GC
  | [.int i], k => k (.int (if i < 0 then -i else i))
  | _, _ => False
def gToInt : GC
  | [.int i], k => k (.int i)
  | [.bl b], k => k (.int (if b then 1 else 0))
  | _, _ => False
def gToBl : GC
  | [.int i], k => k (.bl (i != 0))
  | [.bl b], k => k (.bl b)
  | _, _ => False
def gToStr : GC
  | [.int i], k => i.natAbs.log2 < 1920 ∧ k (.str (toString i))
  | _, _ => False
def gToTup : GC
  | [.lst l], k => k (.tup l)
  | [.tup l], k => k (.tup l)
  | _, _ => False
def gToLst : GC
  | [.lst l], k => k (.lst l)
  | [.tup l], k => k (.lst l)
  | _, _ => False
def gSum : GC
  | [.lst l], k => ∃ ns, intsOf l = some ns ∧ k (.int ns.sum)
  | _, _ => False
def gSumT : GC
  | [.tup l], k => ∃ ns, intsOf l = some ns ∧ k (.int ns.sum)
  | _, _ => False
def gMax2 : GC
  | [.int i, .int j], k => k (.int (if j > i then j else i))
  | _, _ => False
def gMin2 : GC
  | [.int i, .int j], k => k (.int (if j < i then j else i))
  | _, _ => False
def gMax : GC
  | [.lst l], k => ∃ ns, intsOf l = some ns ∧ ns ≠ [] ∧ ∀ m, m ∈ ns → (∀ y ∈ ns, y ≤ m) → k (.int m)
  | _, _ => False
def gMin : GC
  | [.lst l], k => ∃ ns, intsOf l = some ns ∧ ns ≠ [] ∧ ∀ m, m ∈ ns → (∀ y ∈ ns, m ≤ y) → k (.int m)
  | _, _ => False
def gAll : GC
  | [.lst l], k => ∃ bs, blsOf l = some bs ∧ k (.bl (bs.all id))
  | _, _ => False
def gAny : GC
  | [.lst l], k => ∃ bs, blsOf l = some bs ∧ k (.bl (bs.any id))
  | _, _ => False
def gSorted : GC
  | [.lst l], k => ∃ ns, intsOf l = some ns ∧ ∀ ns' : List Int, ns'.Perm ns → ns'.Pairwise (· ≤ ·) → k (.lst (ns'.map Dt.int))
  | _, _ => False
def gDivmod : GC
  | [.int i, .int j], k => CDivP i j ∧ k (.tup [.int (i / j), .int (i % j)])
  | _, _ => False
def gGcd : GC
  | [.int i, .int j], k => k (.int ((Nat.gcd i.natAbs j.natAbs : Nat) : Int))
  | _, _ => False
def gLcm : GC
  | [.int i, .int j], k => i.natAbs < 2 ^ 8000 ∧ j.natAbs < 2 ^ 8000 ∧ k (.int ((Nat.lcm i.natAbs j.natAbs : Nat) : Int))
  | _, _ => False
/-- the name of a plain value's kind -/
def tyD : Dt → Option String
  | .non => some "NoneType"
  | .bl _ => some "bool"
  | .int _ => some "int"
  | .str _ => some "str"
  | .lst _ => some "list"
  | .tup _ => some "tuple"
  | .dct => some "dict"
  | _ => none
/-- isinstance(x, C), C a built-in class -/
def gIsi : GC
  | [x, .ty n], k => ∃ t b, tyD x = some t ∧ kitB t n = some b ∧ k (.bl b)
  | _, _ => False
section
variable {S : Su}
theorem one_of {M : Mu} {L A : List Addr} {H : Hp} {xs : List V} {d : Dt} (h : Dws S M L A H xs [d]) : ∃ v, xs = [v] ∧ Dw S M L A H v d := h.one
theorem pLen : CallP S (fun xs H Q => ∃ x n, xs = [x] ∧ LenV S.K x H n ∧ Q (.int n) H) gLen := by
  intro M L A H xs ds k Q hd m dis hx g a
  unfold gLen at g
  split at g
  · obtain ⟨v, rfl, hv⟩ := hx.one
    obtain ⟨p, vs, rfl, e1, q1⟩ := hv.list
    exact ⟨_, _, rfl, .inl ⟨vs, .inl (.inl e1), rfl⟩, by rw [q1.len]; exact a _ _ _ .refl m (.int _) g⟩
  · obtain ⟨v, rfl, hv⟩ := hx.one
    obtain ⟨p, vs, rfl, e1, q1⟩ := hv.tuple
    exact ⟨_, _, rfl, .inr ⟨vs, e1, rfl⟩, by rw [q1.len]; exact a _ _ _ .refl m (.int _) g⟩
  · obtain ⟨v, rfl, hv⟩ := hx.one
    rw [hv.str_eq]
    exact ⟨_, _, rfl, ⟨g.1, rfl⟩, a _ _ _ .refl m (.int _) g.2⟩
  · exact g.elim
theorem pAbs : CallP S (fun xs H Q => ∃ i, xs = [.int i] ∧ Q (.int (if i < 0 then -i else i)) H) gAbs := by
  intro M L A H xs ds k Q hd m dis hx g a
  unfold gAbs at g
  split at g
  · obtain ⟨v, rfl, hv⟩ := hx.one
    exact ⟨_, by rw [hv.int_eq], a _ _ _ .refl m (.int _) g⟩
  · exact g.elim
theorem pToInt : CallP S (fun xs H Q => (∃ i, xs = [.int i] ∧ Q (.int i) H) ∨ ∃ k, xs = [.bl k] ∧ Q (.int (if k then 1 else 0)) H) gToInt := by
  intro M L A H xs ds k Q hd m dis hx g a
  unfold gToInt at g
  split at g
  · obtain ⟨v, rfl, hv⟩ := hx.one
    exact .inl ⟨_, by rw [hv.int_eq], a _ _ _ .refl m (.int _) g⟩
  · obtain ⟨v, rfl, hv⟩ := hx.one
    exact .inr ⟨_, by rw [hv.bl_eq], a _ _ _ .refl m (.int _) g⟩
  · exact g.elim
theorem pToBl : CallP S (fun xs H Q => (∃ i, xs = [.int i] ∧ Q (.bl (i != 0)) H) ∨ ∃ k, xs = [.bl k] ∧ Q (.bl k) H) gToBl := by
  intro M L A H xs ds k Q hd m dis hx g a
  unfold gToBl at g
  split at g
  · obtain ⟨v, rfl, hv⟩ := hx.one
    exact .inl ⟨_, by rw [hv.int_eq], a _ _ _ .refl m (.bl _) g⟩
  · obtain ⟨v, rfl, hv⟩ := hx.one
    exact .inr ⟨_, by rw [hv.bl_eq], a _ _ _ .refl m (.bl _) g⟩
  · exact g.elim
theorem pToStr : CallP S (fun xs H Q => ∃ i, xs = [.int i] ∧ i.natAbs.log2 < 1920 ∧ Q (.str (toString i)) H) gToStr := by
  intro M L A H xs ds k Q hd m dis hx g a
  unfold gToStr at g
  split at g
  · obtain ⟨v, rfl, hv⟩ := hx.one
    exact ⟨_, by rw [hv.int_eq], g.1, a _ _ _ .refl m (.str _) g.2⟩
  · exact g.elim
theorem pToTup : CallP S (fun xs H Q => ∃ p ys, xs = [.ref p] ∧ ((SqL S.K H p ys ∧ ∀ l, H l = none → Q (.ref l) (upd H l (.tup ys))) ∨ (SqT S.K H p ys ∧ Q (.ref p) H))) gToTup := by
  intro M L A H xs ds k Q hd m dis hx g a
  unfold gToTup at g
  split at g
  · obtain ⟨v, rfl, hv⟩ := hx.one
    obtain ⟨p, vs, rfl, e1, q1⟩ := hv.list
    exact ⟨p, vs, rfl, .inl ⟨.inl (.inl e1), fun r nr => a _ _ _ (.of (same_new nr)) (m.same (same_new nr)) (.tup' (.inl (.inl (by rw [hv_out fun z => hd r z nr]; exact upd_same))) (das_new nr q1)) g⟩⟩
  · obtain ⟨v, rfl, hv⟩ := hx.one
    have sv := hv.strong (fun l z => by cases z)
    obtain ⟨p, vs, rfl, e1, q1⟩ := hv.tuple
    exact ⟨p, vs, rfl, .inr ⟨e1, a _ _ _ .refl m sv g⟩⟩
  · exact g.elim
theorem fToLst : CallF S (fun xs H Q => ∃ p ys, xs = [.ref p] ∧ (SqL S.K H p ys ∨ SqT S.K H p ys) ∧ ∀ l, H l = none → Q (.ref l) (upd H l (.lst ys))) gToLst := by
  intro M L A H xs ds k Q hd m dis hx g a
  unfold gToLst at g
  split at g
  · obtain ⟨v, rfl, hv⟩ := hx.one
    obtain ⟨p, vs, rfl, e1, q1⟩ := hv.list
    exact ⟨p, vs, rfl, .inl (.inl (.inl e1)), fun r nr => a r _ _ _ nr (.of (same_new nr)) (m.same (same_new nr)) upd_same ((q1.same (hv_more nr)).same (Go.hv (Go.of (same_new nr)))) g⟩
  · obtain ⟨v, rfl, hv⟩ := hx.one
    obtain ⟨p, vs, rfl, e1, q1⟩ := hv.tuple
    exact ⟨p, vs, rfl, .inr e1, fun r nr => a r _ _ _ nr (.of (same_new nr)) (m.same (same_new nr)) upd_same ((q1.same (hv_more nr)).same (Go.hv (Go.of (same_new nr)))) g⟩
  · exact g.elim
theorem ints_at {M : Mu} {L A : List Addr} {H : Hp} {v : V} {l : List Dt} {ns : List Int} (h : Dw S M L A H v (.lst l)) (e : intsOf l = some ns) : ∃ p, v = .ref p ∧ H p = some (.lst (ns.map V.int)) := by
  obtain ⟨p, vs, rfl, e1, q1⟩ := h.list
  rw [intsOf_eq e] at q1
  exact ⟨p, rfl, by rw [e1, q1.of_ints]⟩
theorem pSum : CallP S (rSum S.K) gSum := by
  intro M L A H xs ds k Q hd m dis hx g a
  unfold gSum at g
  split at g
  · obtain ⟨v, rfl, hv⟩ := hx.one
    obtain ⟨ns, e, hk⟩ := g
    obtain ⟨p, rfl, e1⟩ := ints_at hv e
    exact ⟨p, ns, rfl, .inl (.inl e1), a _ _ _ .refl m (.int _) hk⟩
  · exact g.elim
theorem pSumT : CallP S (rSumT S.K) gSumT := by
  intro M L A H xs ds k Q hd m dis hx g a
  unfold gSumT at g
  split at g
  · obtain ⟨v, rfl, hv⟩ := hx.one
    obtain ⟨ns, e, hk⟩ := g
    obtain ⟨p, vs, rfl, e1, q1⟩ := hv.tuple
    rw [intsOf_eq e] at q1
    rw [q1.of_ints] at e1
    exact ⟨p, ns, rfl, e1, a _ _ _ .refl m (.int _) hk⟩
  · exact g.elim
theorem pMax2 : CallP S (fun xs H Q => ∃ i j, xs = [.int i, .int j] ∧ Q (.int (if j > i then j else i)) H) gMax2 := by
  intro M L A H xs ds k Q hd m dis hx g a
  unfold gMax2 at g
  split at g
  · obtain ⟨v, u, rfl, hv, hu⟩ := hx.two
    exact ⟨_, _, by rw [hv.int_eq, hu.int_eq], a _ _ _ .refl m (.int _) g⟩
  · exact g.elim
theorem pMin2 : CallP S (fun xs H Q => ∃ i j, xs = [.int i, .int j] ∧ Q (.int (if j < i then j else i)) H) gMin2 := by
  intro M L A H xs ds k Q hd m dis hx g a
  unfold gMin2 at g
  split at g
  · obtain ⟨v, u, rfl, hv, hu⟩ := hx.two
    exact ⟨_, _, by rw [hv.int_eq, hu.int_eq], a _ _ _ .refl m (.int _) g⟩
  · exact g.elim
theorem pMax : CallP S (rMax S.K) gMax := by
  intro M L A H xs ds k Q hd m dis hx g a
  unfold gMax at g
  split at g
  · obtain ⟨v, rfl, hv⟩ := hx.one
    obtain ⟨ns, e, ne, hk⟩ := g
    obtain ⟨p, rfl, e1⟩ := ints_at hv e
    exact ⟨p, ns, rfl, .inl (.inl e1), List.length_pos_iff.mpr ne, fun mm h1 h2 => a _ _ _ .refl m (.int _) (hk mm h1 h2)⟩
  · exact g.elim
theorem pMin : CallP S (rMin S.K) gMin := by
  intro M L A H xs ds k Q hd m dis hx g a
  unfold gMin at g
  split at g
  · obtain ⟨v, rfl, hv⟩ := hx.one
    obtain ⟨ns, e, ne, hk⟩ := g
    obtain ⟨p, rfl, e1⟩ := ints_at hv e
    exact ⟨p, ns, rfl, .inl (.inl e1), List.length_pos_iff.mpr ne, fun mm h1 h2 => a _ _ _ .refl m (.int _) (hk mm h1 h2)⟩
  · exact g.elim
theorem bls_at {M : Mu} {L A : List Addr} {H : Hp} {v : V} {l : List Dt} {ns : List Bool} (h : Dw S M L A H v (.lst l)) (e : blsOf l = some ns) : ∃ p, v = .ref p ∧ H p = some (.lst (ns.map V.bl)) := by
  obtain ⟨p, vs, rfl, e1, q1⟩ := h.list
  rw [blsOf_eq e] at q1
  exact ⟨p, rfl, by rw [e1, q1.of_bls]⟩
theorem pAll : CallP S (rAll S.K) gAll := by
  intro M L A H xs ds k Q hd m dis hx g a
  unfold gAll at g
  split at g
  · obtain ⟨v, rfl, hv⟩ := hx.one
    obtain ⟨ns, e, hk⟩ := g
    obtain ⟨p, rfl, e1⟩ := bls_at hv e
    exact ⟨p, ns, rfl, .inl (.inl e1), a _ _ _ .refl m (.bl _) hk⟩
  · exact g.elim
theorem pAny : CallP S (rAny S.K) gAny := by
  intro M L A H xs ds k Q hd m dis hx g a
  unfold gAny at g
  split at g
  · obtain ⟨v, rfl, hv⟩ := hx.one
    obtain ⟨ns, e, hk⟩ := g
    obtain ⟨p, rfl, e1⟩ := bls_at hv e
    exact ⟨p, ns, rfl, .inl (.inl e1), a _ _ _ .refl m (.bl _) hk⟩
  · exact g.elim
theorem fSorted : CallF S (rSortedI S.K) gSorted := by
  intro M L A H xs ds k Q hd m dis hx g a
  unfold gSorted at g
  split at g
  · obtain ⟨v, rfl, hv⟩ := hx.one
    obtain ⟨ns, e, hk⟩ := g
    obtain ⟨p, rfl, e1⟩ := ints_at hv e
    exact ⟨p, ns, rfl, .inl (.inl e1), fun ns' r h1 h2 nr => a r _ _ _ nr (.of (same_new nr)) (m.same (same_new nr)) upd_same (.ints _) (hk ns' h1 h2)⟩
  · exact g.elim
theorem pDivmod : CallP S (fun xs H Q => ∃ i j, xs = [.int i, .int j] ∧ CDivP i j ∧ ∀ p, H p = none → Q (.ref p) (upd H p (.tup [.int (i / j), .int (i % j)]))) gDivmod := by
  intro M L A H xs ds k Q hd m dis hx g a
  unfold gDivmod at g
  split at g
  · obtain ⟨v, u, rfl, hv, hu⟩ := hx.two
    exact ⟨_, _, by rw [hv.int_eq, hu.int_eq], g.1, fun r nr => a _ _ _ (.of (same_new nr)) (m.same (same_new nr)) (.tup' (.inl (.inl (by rw [hv_out fun z => hd r z nr]; exact upd_same))) (.cons (.int _) (.cons (.int _) .nil))) g.2⟩
  · exact g.elim
theorem pGcd : CallP S rGcd gGcd := by
  intro M L A H xs ds k Q hd m dis hx g a
  unfold gGcd at g
  split at g
  · obtain ⟨v, u, rfl, hv, hu⟩ := hx.two
    exact ⟨_, _, by rw [hv.int_eq, hu.int_eq], a _ _ _ .refl m (.int _) g⟩
  · exact g.elim
theorem pLcm : CallP S rLcm gLcm := by
  intro M L A H xs ds k Q hd m dis hx g a
  unfold gLcm at g
  split at g
  · obtain ⟨v, u, rfl, hv, hu⟩ := hx.two
    exact ⟨_, _, by rw [hv.int_eq, hu.int_eq], g.1, g.2.1, a _ _ _ .refl m (.int _) g.2.2⟩
  · exact g.elim
theorem ty_of {M : Mu} {L A : List Addr} {H : Hp} {v : V} {d : Dt} {t : String} (h : Dw S M L A H v d) (e : tyD d = some t) : TyX S.K H v (.type t) := by
  cases d with
  | non => cases e; rw [h.non_eq]; exact .base .non
  | bl b => cases e; rw [h.bl_eq]; exact .base (.bl b)
  | int b => cases e; rw [h.int_eq]; exact .base (.int b)
  | str b => cases e; rw [h.str_eq]; exact .base (.str b)
  | lst l =>
    cases e
    obtain ⟨p, vs, rfl, e1, _⟩ := h.list
    exact .base (.lst e1)
  | tup l =>
    cases e
    obtain ⟨p, vs, rfl, e1, _⟩ := h.tuple
    rcases e1 with (h | ⟨o, h⟩) | ⟨o, its, n, h, hc, _⟩
    · exact .base (.tup h)
    · exact .fTuple h
    · exact .kTuple h hc
  | dct =>
    cases e
    cases h.strong (fun l z => by cases z) with
    | dct e1 ne => exact .base (.dK (hv_le _ _ e1))
  | ty n => cases e
  | tnk n => cases e
  | obj n d => cases e
  | fn n => cases e
theorem pIsi : CallP S (rIsi S.K) gIsi := by
  intro M L A H xs ds k Q hd m dis hx g a
  unfold gIsi at g
  split at g
  · obtain ⟨v, u, rfl, hv, hu⟩ := hx.two
    obtain ⟨t, b, e1, e2, hk⟩ := g
    exact ⟨v, .ty _, .type t, .type _, b, by rw [hu.ty_eq], .ty _, ty_of hv e1, kit_ty e2, a _ _ _ .refl m (.bl _) hk⟩
  · exact g.elim
end
/-! ### the calls -/
section
variable {X : Cx} {S : Su} {E : XK} {x : Expr} {ws : WA} {r : List V → Hp → VK → Prop} {g : GC}
theorem xCB (h : PE X x (tCB r (tPAW S E ws))) (hp : CallP S r g) : PE X x (tP S E (wCal g ws)) := peTo h (calBT hp)
theorem xCF (h : PE X x (tCB r (tPAW S E ws))) (hp : CallF S r g) : PE X x (tPF S E (wCal g ws)) := peTo h (calBF hp)
/-- a call of a def that raises nothing -/
def wCall0 (n : Nat) (f : SpF) (wa : WA) : WE := fun δ k e => wa δ (fun xs => xs.length = n ∧ f xs k nE) e
theorem call0T {f : SpF} {n : Nat} {E1 : XK} : ∀ σ H Q, tP S E (wCall0 n f ws) σ H Q → tCall (spW S n f) [] E1 (tPA S E ws) σ H Q := fun σ H Q ⟨M, A, L, δ, k, e, fr, hw, a, ax⟩ =>
  ⟨M, A, L, δ, _, e, fr, hw, fun vs ds H1 s1 m1 hv hk => by
    show spW S n f (vs ++ []) H1 Q E1
    rw [List.append_nil]
    exact ⟨M, L ++ A, ds, k, nE, by rw [hv.len]; exact hk.1, held_stp s1 m1 fr.hd, fun x hx => List.mem_append_right _ (fr.mA x hx), m1, hv, hk.2, fun v d H2 s2 m2 hd2 hk2 => a v d H2 (s1.trans m1 s2) m2 hd2 hk2, afx0⟩, ax⟩
theorem xCall0 {f : SpF} {n : Nat} {E1 : XK} (h : PE X x (tCall (spW S n f) [] E1 (tPA S E ws))) : PE X x (tP S E (wCall0 n f ws)) := peTo h call0T
/-- .. that gives a list back which nothing else knows -/
theorem xCallF {f : SpF} {n : Nat} {E1 : XK} (h : PE X x (tCall (spWF S n f) [] E1 (tPA S E ws))) : PE X x (tPF S E (wCall0 n f ws)) := peTo h fun σ H Q ⟨M, A, L, δ, k, e, fr, hw, a, ax⟩ =>
  ⟨M, A, L, δ, _, e, fr, hw, fun vs ds H1 s1 m1 hv hk => by
    show spWF S n f (vs ++ []) H1 Q E1
    rw [List.append_nil]
    exact ⟨M, L ++ A, ds, k, nE, by rw [hv.len]; exact hk.1, held_stp s1 m1 fr.hd, fun x hx => List.mem_append_right _ (fr.mA x hx), m1, hv, hk.2, fun p us es H2 n2 s2 m2 ep q2 hk2 => a p us es H2 (stp_free s1 m1 n2) (s1.trans m1 s2) m2 ep q2 hk2⟩, ax⟩
theorem xCall {f : SpF} {n : Nat} (h : PE X x (tCall (spW S n f) [] E (tPA S E ws))) : PE X x (tP S E (wCall n f ws)) := peTo h callT
/-- a call by keywords -/
def wCallK (m n : Nat) (ix : List Nat) (f : SpF) (wa : WA) : WE := fun δ k e => wa δ (fun xs => xs.length = m ∧ (pickL ix xs).length = n ∧ f (pickL ix xs) k nE) e
theorem das_pick {M : Mu} {H : Hp} {vs : List V} {ds : List Dt} (h : Das S M H vs ds) : ∀ ix : List Nat, Das S M H (pickL ix vs) (pickL ix ds)
  | [] => .nil
  | i :: ix => by
    unfold pickL
    rw [List.filterMap_cons, List.filterMap_cons]
    cases q : ds[i]? with
    | none =>
      have : vs[i]? = none := List.getElem?_eq_none_iff.mpr (by rw [h.len]; exact List.getElem?_eq_none_iff.mp q)
      rw [this]
      exact das_pick h ix
    | some d =>
      obtain ⟨v, e, hv⟩ := h.get q
      rw [e]
      exact .cons hv (das_pick h ix)
theorem xCallK {f : SpF} {m n : Nat} {ix : List Nat} {E1 : XK} (h : PE X x (tCallP ix m (spW S n f) E1 (tPA S E ws))) : PE X x (tP S E (wCallK m n ix f ws)) := peTo h fun σ H Q ⟨M, A, L, δ, k, e, fr, hw, a, ax⟩ =>
  ⟨M, A, L, δ, _, e, fr, hw, fun vs ds H1 s1 m1 hv hk => ⟨by rw [hv.len]; exact hk.1, M, L ++ A, pickL ix ds, k, nE, by rw [(das_pick hv ix).len]; exact hk.2.1, held_stp s1 m1 fr.hd, fun x hx => List.mem_append_right _ (fr.mA x hx), m1, das_pick hv ix, hk.2.2,
    fun v d H2 s2 m2 hd2 hk2 => a v d H2 (s1.trans m1 s2) m2 hd2 hk2, afx0⟩, ax⟩
theorem xKNil : PK X [] (tPA S E wNil) := ⟨fun pos pins s σ H Q I ⟨M, A, L, δ, k, e, f, hw, a, ax⟩ => pk_nil.run pos pins s σ H Q I (a _ _ _ .refl f.mu .nil hw)⟩
theorem xKCons {kws : List Keyword} {wa : WE} {nm : Option Str} {kpos : Pos} (ha : PE X x (tP S E wa)) (hr : PK X kws (tPA S E ws)) : PK X (⟨nm, x, kpos⟩ :: kws) (tPA S E (wCons wa ws)) :=
  ⟨fun pos pins s σ H Q I ⟨M, A, L, δ, k, e, f, hw, a, ax⟩ => (pk_cons ha hr).run pos pins s σ H Q I
    ⟨M, A, L, δ, _, e, f, hw, fun v d H1 s1 m1 hv hk => ⟨M, A, L, δ, _, e, f.step s1 m1, hk, fun vs ds H2 s2 m2 hvs hk2 => a _ _ _ (s1.trans m1 s2) m2 (.cons (hv.same ((Stp.wide s2).hv f.mA)) hvs) hk2, ax.step s1 m1⟩, ax⟩⟩
/-! ### fields and methods of things of one's own -/
structure FldOk (S : Su) (k : Nat) (f : Str) (fv : Dt → Dt) : Prop where
  get : ∀ (M : Mu) (d : Dt) (H : Hp) (v : V), S.ob k d H v → ∃ a C dx fs u, v = .ref a ∧ H a = some (.ins C dx fs) ∧ Cls S.K C ∧ NoAttr S.K C f ∧ fs.lookup f = some u ∧ Da S M H u (fv d)
structure MetOk (S : Su) (k : Nat) (C : Addr) (m : Str) : Prop where
  get : ∀ (d : Dt) (H : Hp) (v : V), S.ob k d H v → ∃ a dx fs, v = .ref a ∧ H a = some (.ins C dx fs) ∧ fs.lookup m = none
def wFld (kd : Nat) (fv : Dt → Dt) (w : WE) : WE := fun δ k e => w δ (fun x => match x with | .obj j d => j = kd ∧ k (fv d) | _ => False) e
theorem xFld {kd : Nat} {f : Str} {fv : Dt → Dt} {w : WE} {y : Expr} {pos : Pos} (F : FldOk S kd f fv) (h : PE X y (tP S E w)) (hb : attributeBase y f X.env (eval y X.env) = eval y X.env := by rfl) (hK : X.K = S.K := by rfl) : PE X (.Attribute y f pos) (tP S E (wFld kd fv w)) :=
  peTo (pe_fld h hb) fun σ H Q ⟨M, A, L, δ, k, e, fr, hw, a, ax⟩ => ⟨M, A, L, δ, _, e, fr, hw, fun v d H1 s1 m1 hv hk => by
    rw [hK]
    cases d with
    | obj j d =>
      obtain ⟨rfl, hk⟩ := hk
      cases hv with
      | obj ho =>
        obtain ⟨p, C, dx, fs, u, rfl, e1, c1, c2, c3, hu⟩ := F.get M d _ _ ho
        exact ⟨p, C, dx, fs, u, rfl, hv_le _ _ e1, c1, c2, c3, a _ _ _ s1 m1 hu hk⟩
    | _ => exact hk.elim, ax⟩
def wMth (kd n : Nat) (f : SpF) (w : WE) (wa : WA) : WE := fun δ k e => w δ (fun x => match x with | .obj j d => j = kd ∧ wa δ (fun xs => xs.length + 1 = n ∧ f (.obj j d :: xs) k nE) e | _ => False) e
theorem xMth {kd n : Nat} {C : Addr} {m : Str} {f : SpF} {w : WE} {y : Expr} {E1 : XK} (F : MetOk S kd C m) (h : PE X y (tMeth C m (spW S n f) [] E1 (tP S E w) (tPA S E ws))) : PE X y (tP S E (wMth kd n f w ws)) :=
  peTo h fun σ H Q ⟨M, A, L, δ, k, e, fr, hw, a, ax⟩ => ⟨M, A, L, δ, _, e, fr, hw, fun v d H1 s1 m1 hv hk => by
    cases d with
    | obj j d =>
      obtain ⟨rfl, hk⟩ := hk
      have hv0 := hv
      cases hv with
      | obj ho =>
        obtain ⟨p, dx, fs, rfl, e1, c1⟩ := F.get d _ _ ho
        refine ⟨p, dx, fs, rfl, hv_le _ _ e1, c1, M, A, L, δ, _, e, fr.step s1 m1, hk, fun vs ds H2 s2 m2 hvs hk2 => ?_, ax.step s1 m1⟩
        show spW S n f (V.ref p :: (vs ++ [])) H2 Q E1
        rw [List.append_nil]
        exact ⟨M, L ++ A, .obj j d :: ds, k, nE, by rw [List.length_cons, hvs.len]; exact hk2.1, held_stp (s1.trans m1 s2) m2 fr.hd, fun x hx => List.mem_append_right _ (fr.mA x hx), m2, .cons (hv0.same ((Stp.wide s2).hv fr.mA)) hvs, hk2.2,
          fun v d H3 s3 m3 hd3 hk3 => a v d H3 ((s1.trans m1 s2).trans m2 s3) m3 hd3 hk3, afx0⟩
    | _ => exact hk.elim, ax⟩
/-- text methods -/
def gSplit : Dt → List Dt → (Dt → Prop) → Prop
  | .str a, [.str b], k => (b.length == 0) = false ∧ a.length + 2 ≤ sizeLine ∧ k (.lst ((Txt.split a b).map Dt.str))
  | _, _, _ => False
def gJoin : Dt → List Dt → (Dt → Prop) → Prop
  | .str a, [.lst l], k => ∃ ys, strsOf l = some ys ∧ (ys.map (·.length)).sum + ys.length * a.length ≤ 16777216 ∧ k (.str (Txt.join a ys))
  | _, _, _ => False
def wM1 (g : Dt → List Dt → (Dt → Prop) → Prop) (wo wa : WE) : WE := fun δ k e => wo δ (fun x => match x with | .str _ => wa δ (fun y => g x [y] k) e | _ => False) e
def wM0 (g : Dt → List Dt → (Dt → Prop) → Prop) (wo : WE) : WE := fun δ k e => wo δ (fun x => match x with | .str _ => g x [] k | _ => False) e
theorem xM1 {r : V → List V → Hp → VK → Prop} {g : Dt → List Dt → (Dt → Prop) → Prop} {wo wa : WE} (h : PE X x (tM1 r (tP S E wo) (tPW S E wa))) (hp : MtP S r g) : PE X x (tP S E (wM1 g wo wa)) :=
  peTo h fun σ H Q ⟨M, A, L, δ, k, e, fr, hw, a, ax⟩ => ⟨M, A, L, δ, _, e, fr, hw, fun v d H1 s1 m1 hv hk => by
    cases d with
    | str z => exact ⟨⟨z, hv.str_eq⟩, M, A, L, δ, _, e, fr.step s1 m1, hk, fun u c H2 s2 m2 hu hk2 => hp M L A H2 v _ [u] [c] k Q (held_stp (s1.trans m1 s2) m2 fr.hd) m2 fr.dis (.inl (hv.same ((Stp.wide s2).hv fr.mA))) (.cons hu .nil) hk2 (a.step (s1.trans m1 s2) m2), ax.step s1 m1⟩
    | _ => exact hk.elim, ax⟩
theorem xM0 {r : V → List V → Hp → VK → Prop} {g : Dt → List Dt → (Dt → Prop) → Prop} {wo : WE} (h : PE X x (tM0 r (tP S E wo))) (hp : MtP S r g) : PE X x (tP S E (wM0 g wo)) :=
  peTo h fun σ H Q ⟨M, A, L, δ, k, e, fr, hw, a, ax⟩ => ⟨M, A, L, δ, _, e, fr, hw, fun v d H1 s1 m1 hv hk => by
    cases d with
    | str z => exact ⟨⟨z, hv.str_eq⟩, hp M L A H1 v _ [] [] k Q (held_stp s1 m1 fr.hd) m1 fr.dis (.inl hv) .nil hk (a.step s1 m1)⟩
    | _ => exact hk.elim, ax⟩
theorem mSplit : MtP S (fun x xs H Q => ∃ a b, x = .str a ∧ xs = [.str b] ∧ (b.length == 0) = false ∧ a.length + 2 ≤ sizeLine ∧ rNewStrs (Txt.split a b) H Q) gSplit := by
  intro M L A H x dx xs ds k Q hd m dis hx hxs g a
  unfold gSplit at g
  split at g
  · obtain ⟨v, rfl, hv⟩ := hxs.one
    exact ⟨_, _, hx.str_eq, by rw [hv.str_eq], g.1, g.2.1, fun r nr => a _ _ _ (.of (same_new nr)) (m.same (same_new nr)) (.lst' (by rw [hv_out fun z => hd r z nr]; exact upd_same) (.strs _)) g.2.2⟩
  · exact g.elim
theorem mJoin : MtP S (fun x xs H Q => ∃ a p, ∃ ys : List Str, x = .str a ∧ xs = [.ref p] ∧ (SqL S.K H p (ys.map V.str) ∨ SqT S.K H p (ys.map V.str)) ∧ (ys.map (·.length)).sum + ys.length * a.length ≤ 16777216 ∧ Q (.str (Txt.join a ys)) H) gJoin := by
  intro M L A H x dx xs ds k Q hd m dis hx hxs g a
  unfold gJoin at g
  split at g
  · obtain ⟨v, rfl, hv⟩ := hxs.one
    obtain ⟨ys, e, hz, hk⟩ := g
    obtain ⟨p, vs, rfl, e1, q1⟩ := hv.list
    rw [strsOf_eq e] at q1
    exact ⟨_, p, ys, hx.str_eq, rfl, .inl (.inl (.inl (by rw [e1, q1.of_strs]))), hz, a _ _ _ .refl m (.str _) hk⟩
  · exact g.elim
/-- xs[::-1] -/
def gRevL : Dt → (Dt → Prop) → Prop
  | .lst l, k => k (.lst l.reverse)
  | _, _ => False
theorem xRevS {K : PySem.W.Frag} {w : WE} (h : PE X x (tRevL K (tPW S E w))) (hK : K = S.K := by rfl) : PE X x (tPF S E (wUn gRevL w)) := peTo h fun σ H Q ⟨M, A, L, δ, k, e, fr, hw, a, ax⟩ =>
  ⟨M, A, L, δ, _, e, fr, hw, fun v d H1 s1 m1 hv hk => by
    cases d with
    | lst l =>
      obtain ⟨p, vs, rfl, e1, q1⟩ := hv.list
      exact ⟨p, vs, rfl, .inl (.inl e1), fun q nq => a q _ _ _ (stp_free s1 m1 nq) (s1.trans m1 (.of (same_new nq))) (m1.same (same_new nq)) upd_same ((q1.rev.same (hv_more nq)).same (Go.hv (Go.of (same_new nq)))) hk⟩
    | _ => exact hk.elim, ax⟩
end
end LW

set_option Elab.async false
set_option linter.all false
set_option maxRecDepth 100000
set_option maxHeartbeats 4000100
/-! zip and enumerate of lists and tuples in any mixture; what else the texts want -/
namespace LW
open L2 PySem.Spec PyProof.Rows PySem
/-- a list (true) or a tuple (false) -/
def SqK (c : Bool) (K : PySem.W.Frag) (H : Hp) (a : Addr) (xs : List V) : Prop := match c with
  | true => SqL K H a xs
  | false => SqT K H a xs
def ItAt (c : Bool) (h : Heap) (it a : Addr) (i : Nat) : Prop := match c with
  | true => h.IsListIter it a i
  | false => h.IsTupleIter it a i
def IsSq (c : Bool) (h : Heap) (a : Addr) (its : Array Value) : Prop := match c with
  | true => h.IsList a its
  | false => h.IsTuple a its
theorem draws_sq {prog : Program} {w : World} {A : Around} (c : Bool) (hh : A.handled = none) (it a : Addr) (ne : a ≠ it) (its : Array Value) :
    Draws prog w A it [it, a] its.size (fun i v => its[i]? = some v) (fun i h => ItAt c h it a i ∧ IsSq c h a its) := by
  cases c
  · exact Draws.tuple hh it a ne its
  · exact Draws.list hh it a ne its
theorem itAt_obj {c : Bool} {h : Heap} {it a : Addr} {i : Nat} (st : ItAt c h it a i) : ∃ o, h.get? it = some o ∧ ∀ v, o.data ≠ .cell v := by
  cases c
  · obtain ⟨o, e, _, d⟩ := st
    exact ⟨o, e, fun v z => by
          rw [d] at z; cases z⟩
  · obtain ⟨o, e, _, d⟩ := st
    exact ⟨o, e, fun v z => by
          rw [d] at z; cases z⟩
theorem itAt_keep {c : Bool} {h h' : Heap} {it a : Addr} {i : Nat} (st : ItAt c h it a i) (k : ∀ o, h.get? it = some o → h'.get? it = some o) : ItAt c h' it a i := by
  cases c
  · exact Heap.IsTupleIter.at st k
  · exact Heap.IsListIter.at st k
theorem sq_inv {X : Cx} {pins : List (Addr × Obj)} {σ : L2.St} {H : Hp} {s : Shared} (I : Inv X pins σ H s) (c : Bool) {a : Addr} {xs : List V} (h : SqK c X.K H a xs) : ∃ its : List Value, Vals xs its ∧ IsSq c s.heap a its.toArray ∧ ∀ ys, SqK c X.K H a ys → ys = xs := by
  cases c
  · obtain ⟨its, rv, p, _⟩ := I.tuple h
    exact ⟨its, rv, p, fun ys hy => I.tuple_inj hy h⟩
  · obtain ⟨its, rv, p, _⟩ := I.list h
    exact ⟨its, rv, p.isList, fun ys hy => I.list_inj hy h⟩
def ItzK (ca cb : Bool) (K : PySem.W.Frag) (a b : Addr) : It :=
  ⟨fun i H => ∃ (xs ys : List V) (x y : V), SqK ca K H a xs ∧ SqK cb K H b ys ∧ xs[i]? = some x ∧ ys[i]? = some y,
    fun i H v H' => ∃ T x y, v = .ref T ∧ H T = none ∧ H' = upd H T (.tup [x, y]) ∧ (∀ xs, SqK ca K H a xs → xs[i]? = some x) ∧ ∀ ys, SqK cb K H b ys → ys[i]? = some y,
    fun i H => ∃ xs ys : List V, SqK ca K H a xs ∧ SqK cb K H b ys ∧ i ≤ xs.length ∧ i ≤ ys.length ∧ (i = xs.length ∨ i = ys.length)⟩
theorem turn_zipK {P : Program} {w : World} {K : PySem.W.Frag} {elts : List Expr} {kk : Nat} {tpos : Pos} {a b z TI TO i1 i2 : Addr} (ca cb : Bool) (S : ZipSep2 z TI TO i1 i2 [i1, a] [i2, b]) (na : a ≠ i1) (nb : b ≠ i2) :
    Turn P w K (.Tuple elts kk tpos) (ItzK ca cb K a b) [z, TI, TO, i1, i2] z (fun i h => IsZip h z TI TO .none ∧ IsTupOf2 h TI (.ref i1) (.ref i2) ∧ (∃ x y, IsTupOf2 h TO x y) ∧ ItAt ca h i1 a i ∧ ItAt cb h i2 b i) where
  mem := by simp
  obj := fun i h st c hc => by
    obtain ⟨hz, hTI, ⟨x, y, hTO⟩,
          h1, h2⟩ := st
    have e' : c = z ∨ c = TI ∨ c = TO ∨ c = i1 ∨ c =
          i2 := by simpa using hc
    rcases e' with q | q
          | q | q | q
    · rw [q]; exact ⟨_, hz, fun v
          q => nomatch q⟩
    · rw [q]; exact ⟨_, hTI, fun v
          q => nomatch q⟩
    · rw [q]; exact ⟨_, hTO, fun v
          q => nomatch q⟩
    · rw [q]; exact itAt_obj h1
    · rw [q]; exact itAt_obj h2
  keep := fun i h h' st k => by
    obtain ⟨hz, hTI, ⟨x, y, hTO⟩,
          h1, h2⟩ := st
    exact ⟨k z (by simp) _ hz, k TI (by simp) _ hTI, ⟨x, y, k TO (by simp) _ hTO⟩, itAt_keep h1 fun o q => k i1 (by simp) o q, itAt_keep h2 fun o q => k i2 (by simp) o q⟩
  item := by
    intro X hP hw hK hc i pins s σ
          H E I hf st hg
    subst hP hw hK
    obtain ⟨hz, hTI, ⟨x0, y0, hTO⟩,
          h1, h2⟩ := st
    obtain ⟨xs, ys, x, y, hqx, hqy,
          hx, hy⟩ := hg
    obtain ⟨its, rv, p, ux⟩ := sq_inv I ca hqx
    obtain ⟨its2, rv2, p2, uy⟩ := sq_inv I cb hqy
    obtain ⟨u, hu, ru⟩ :=
          rv.get hx
    obtain ⟨u2, hu2, ru2⟩ :=
          rv2.get hy
    have l1 : i < its.toArray.size := by have := (List.getElem?_eq_some_iff.mp hu).1; simpa using this
    have l2 : i < its2.toArray.size := by have := (List.getElem?_eq_some_iff.mp hu2).1; simpa using this
    have hzl : z < s.heap.objs.size :=
          Heap.lt_size hz
    have hd := I.ok.hd hc
    refine wpAny_pyNext_zipD2_item S (draws_sq (A := X.A.in1) ca hd i1 a na its.toArray) (draws_sq (A := X.A.in1) cb hd i2 b nb its2.toArray) hz hTI hTO ⟨h1, p⟩ ⟨h2, p2⟩ l1 l2 fun v1 v2 h' tk y1 y2 z' TO' s1' s2' hT hsz hk => ?_
    have e1 : v1 = u := by
      have : its.toArray[i]? = some u := by simpa using hu
      exact Option.some.inj (y1.symm.trans this)
    have e2 : v2 = u2 := by
      have : its2.toArray[i]? = some u2 := by simpa using hu2
      exact Option.some.inj (y2.symm.trans this)
    subst e1 e2
    refine ⟨_, rfl, wpAny_letOwnedTupleGo_zip (s := { s with heap := h', toks := tk }) z' fun h'' z'' sb => ?_⟩
    have hT2 : h''.get? s.heap.objs.size = some { cls := .type "tuple", data := .seq #[v1, v2] } := (sb.2 _ (Nat.ne_of_gt hzl)).trans hT
    have new : ObjOk X.prog X.w (upd H s.heap.objs.size (.tup [x, y])) h''
          s.heap.objs.size (.tup [x, y]) :=
      ⟨by show 2 ≤ sizeLine; decide, [v1, v2], .cons ru (.cons ru2 .nil), ⟨_, hT2, rfl, _, rfl⟩⟩
    have I1 : Inv X pins σ (upd H s.heap.objs.size (.tup [x, y])) { s with heap := h'', toks := tk } :=
      I.turnedNew (t' := tk) (ch := [z, TI, TO, i1, i2]) (fun c o hb q => (sb.2 c (fun q' => hb (by simp [q']))).trans (hk c o (fun q' => hb (by simp [q'])) (fun q' => hb (by simp [q'])) (fun q' => hb (by simp [q'])) (fun q' => hb (by simp [q'])) q)) hf (Nat.le_refl _) new
    refine ⟨.ref s.heap.objs.size, _, I1, rfl, ⟨_, x, y, rfl, I.hok.fresh (Nat.le_refl _), rfl, fun l hl => by rw [ux l hl]; exact hx, fun l hl => by rw [uy l hl]; exact hy⟩, ⟨z'', ?_, ⟨v1, v2, ?_⟩, ?_, ?_⟩, fun c hcm => ?_⟩
    · exact (sb.2 _ S.TIz).trans (hk _ _ S.TIz S.TITO S.TIi1 S.TIi2 hTI)
    · exact (sb.2 _ S.TOz).trans TO'
    · exact itAt_keep s1'.1 fun o q => (sb.2 _ S.zi1.symm).trans q
    · exact itAt_keep s2'.1 fun o q => (sb.2 _ S.zi2.symm).trans q
    · have hlt : c < s.heap.objs.size
          := by
        have e' : c = z ∨ c = TI ∨ c = TO ∨ c = i1 ∨ c =
              i2 := by simpa using hcm
        rcases e' with q | q
              | q | q | q
        · rw [q]; exact hzl
        · rw [q]; exact
              Heap.lt_size hTI
        · rw [q]; exact
              Heap.lt_size hTO
        · rw [q]; obtain ⟨_, e1, _⟩ := itAt_obj h1; exact Heap.lt_size e1
        · rw [q]; obtain ⟨_, e2, _⟩ := itAt_obj h2; exact Heap.lt_size e2
      rw [upd_ne (Nat.ne_of_lt
            hlt)]
      exact (hf c hcm).1
  done := by
    intro X hP hw hK hc i pins s σ
          H E I hf st hg
    subst hP hw hK
    obtain ⟨hz, hTI, ⟨x0, y0, hTO⟩,
          h1, h2⟩ := st
    obtain ⟨xs, ys, hqx, hqy, b1, b2, hend⟩ := hg
    obtain ⟨its, rv, p, _⟩ := sq_inv I ca hqx
    obtain ⟨its2, rv2, p2, _⟩ := sq_inv I cb hqy
    have l1 : its.toArray.size = xs.length := by rw [List.size_toArray, rv.length]
    have l2 : its2.toArray.size = ys.length := by rw [List.size_toArray, rv2.length]
    have hd := I.ok.hd hc
    exact wpAny_pyNext_zipD2_end S (draws_sq (A := X.A.in1) ca hd i1 a na its.toArray) (draws_sq (A := X.A.in1) cb hd i2 b nb its2.toArray) hz hTI hTO ⟨h1, p⟩ ⟨h2, p2⟩ (by omega) (by omega) (by omega) fun h' tk hk => ⟨rfl, I.turnedL (t' := tk) (ch := [z, TI, TO, i1, i2]) (fun c o hb q =>
      hk c o (fun q' => hb (by simp [q'])) (fun q' => hb (by simp [q'])) (fun q' => hb (by simp
            [q'])) (fun q' => hb (by simp [q'])) q) hf⟩
  self := fun A i s Q E st h =>
        wpAny_pyIter_zip st.1 h
def sqIter (c : Bool) (a : Addr) : Obj := match c with
  | true => { cls := .type "list_iterator", data := .fields #[.ref a, .int 0 0] }
  | false => { cls := .type "tuple_iterator", data := .fields #[.ref a, .int 0 0] }
theorem begins_sq (c : Bool) (a : Addr) (its : Array Value) : Begins (.ref a) (sqIter c a) (fun h => IsSq c h a its) := by
  cases c
  · exact begins_tuple a its
  · exact begins_list a its
theorem itAt_new {c : Bool} {h : Heap} {it a : Addr} (e : h.get? it = some (sqIter c a)) : ItAt c h it a 0 := by
  cases c
  · exact ⟨_, e, rfl, rfl⟩
  · exact ⟨_, e, rfl, rfl⟩
def iZipK (K : PySem.W.Frag) (ta : TA) : TI := fun σ H R => ta σ H fun vs H1 => ∃ (ca cb : Bool) (a b : Addr) (xs ys : List V), vs = [.ref a, .ref b] ∧ SqK ca K H1 a xs ∧ SqK cb K H1 b ys ∧ R (ItzK ca cb K a b) H1
theorem sq_lt {c : Bool} {h : Heap} {a : Addr} {its : Array Value} (e : IsSq c h a its) : a < h.objs.size := by
  cases c
  · obtain ⟨o, e, _⟩ := e; exact Heap.lt_size e
  · obtain ⟨o, e, _⟩ := e; exact Heap.lt_size e
theorem sep_at {n a b : Nat} (la : a < n) (lb : b < n) : ZipSep2 (n + 4) (n + 2) (n + 3) n (n + 1) [n, a] [n + 1, b] := by
  constructor <;> first | exact List.mem_cons_self | (intro z; simp only [List.mem_cons, List.not_mem_nil, or_false] at z; (have z' : (_ : Nat) = _ ∨ (_ : Nat) = _ := z); omega) | (intro z; (have z' : (_ : Nat) = (_ : Nat) := z); omega)
theorem pi_zipK {X : Cx} {e e2 : Expr} {ta : TA} {p pos tpos : Pos} {elts : List Expr} {kk : Nat} (hg : Gl X "zip") (hm : X.mg "zip" = none) (ha : PA X [e, e2] ta)
    (hs : starEach [e, e2] X.env = (false, eval e X.env) :: starEach [e2] X.env := by
          rfl) (hpl : (backTo pos (starEach [e2] X.env)).any (·.1) = false := by rfl) :
    PI X (.Tuple elts kk tpos) (.Call (.Name "zip" p) [e, e2] [] pos) (iZipK X.K ta) := by
  refine ⟨fun pins s σ H
        R I h => ?_⟩
  refine Call_ (ld_blt I hg hm PyProof.Rows.boot_zip (PyProof.Rows.callWith_type1 (thn (ha.run pos pins s σ H
        _ I h) fun us s1 ⟨vs, H1, I1, r1, q1⟩ => ?_) hs hpl))
  obtain ⟨ca, cb, a, b, xs, ys, ex, hqx, hqy, q⟩ := q1
  subst ex
  obtain ⟨u1, u2, rfl, ra, rb⟩ := r1.two
  cases (show u1 = Value.ref a from ra)
  cases (show u2 = Value.ref b from rb)
  obtain ⟨its, rv, p1, _⟩ := sq_inv I1 ca hqx
  obtain ⟨its2, rv2, p2, _⟩ := sq_inv I1 cb hqy
  have la := sq_lt p1
  have lb := sq_lt p2
  have fresh5 : ∀ c, c ∈ [s1.heap.objs.size + 4, s1.heap.objs.size + 2, s1.heap.objs.size + 3, s1.heap.objs.size,
        s1.heap.objs.size + 1] → FpOk X pins H1 c := fun c hcm => by
    have hle : s1.heap.objs.size
          ≤ c := by
      simp only [List.mem_cons, List.not_mem_nil, or_false] at hcm
      omega
    exact I1.fpOk hle
          (I1.hok.fresh hle)
  refine zip_begins2 (begins_sq ca a its.toArray) (begins_sq cb b its2.toArray) p1 p2 fun h' hz hTI hTO h1 h2 hsz hk => wpAny_pyIter_zip hz ?_
  have I2 : Inv X pins σ H1 { s1 with heap := h' } :=
        I1.kept (t' := s1.toks) hk
  have S := sep_at (n := s1.heap.objs.size) la lb
  exact ⟨s1.heap.objs.size + 4, [s1.heap.objs.size + 4, s1.heap.objs.size + 2, s1.heap.objs.size + 3, s1.heap.objs.size, s1.heap.objs.size + 1], _, _, H1, rfl, I2, turn_zipK ca cb S (Nat.ne_of_lt la) (Nat.ne_of_lt (Nat.lt_succ_of_lt lb)), ⟨hz, hTI, ⟨_, _, hTO⟩, itAt_new h1, itAt_new h2⟩, fresh5, q⟩
/-! ### as walks of plain data -/
section
variable {S : Su} {M : Mu}
theorem sqK_full {c : Bool} {B : List Addr} {K : PySem.W.Frag} {H : Hp} {a : Addr} {xs : List V} (h : SqK c K (hv B H) a xs) : SqK c K H a xs := by
  cases c
  · exact sqT_full h
  · exact sqL_full h
theorem sqK_same {c : Bool} {K : PySem.W.Frag} {H H' : Hp} {a : Addr} {xs : List V} (s : Same H H') (h : SqK c K H a xs) : SqK c K H' a xs := by
  cases c
  · exact seqT_same s h
  · exact Same.seq s h
theorem sq_of {H : Hp} {v : V} {d : Dt} {l : List Dt} (h : Da S M H v d) (e : d = .lst l ∨ d = .tup l) : ∃ (c : Bool) (a : Addr) (vs : List V), v = .ref a ∧ SqK c S.K H a vs ∧ Das S M H vs l := by
  rcases e with rfl | rfl
  · obtain ⟨p, vs, rfl, e1, q⟩ := h.list
    exact ⟨true, p, vs, rfl, .inl (.inl e1), q⟩
  · obtain ⟨p, vs, rfl, e1, q⟩ := h.tuple
    exact ⟨false, p, vs, rfl, e1, q⟩
theorem itS_zipK {ca cb : Bool} {a b : Addr} {ds es : List Dt} (vs ws : List V) (l1 : vs.length = ds.length) (l2 : ws.length = es.length) : ItS S M (ItzK ca cb S.K a b) (zipped ds es) (fun B H => (SqK ca S.K (hv B H) a vs ∧ Das S M (hv B H) vs ds) ∧ SqK cb S.K (hv B H) b ws ∧ Das S M (hv B H) ws es) := by
  have ln : (zipped ds es).length = min vs.length ws.length := by unfold zipped; rw [List.length_zipWith, l1, l2]
  refine ⟨fun B B' H H' s h => ⟨⟨sqK_same s h.1.1, h.1.2.same s⟩, sqK_same s h.2.1, h.2.2.same s⟩, fun i B H hi h => ?_, fun B H h => ?_, fun i B H x H' d e h hd y => ?_⟩
  · rw [ln] at hi
    have h1 : i < vs.length := by omega
    have h2 : i < ws.length := by omega
    exact ⟨vs, ws, vs[i], ws[i], sqK_full h.1.1, sqK_full h.2.1, by simp [h1], by simp [h2]⟩
  · exact ⟨vs, ws, sqK_full h.1.1, sqK_full h.2.1, by rw [ln]; omega, by rw [ln]; omega, by rw [ln]; omega⟩
  · obtain ⟨T, x1, x2, rfl, nT, rfl, e1, e2⟩ := y
    obtain ⟨p, q, ep, eq, rfl⟩ := zip_of e
    exact pair_new nT hd (h.1.2.all i x1 p (e1 vs (sqK_full h.1.1)) ep) (h.2.2.all i x2 q (e2 ws (sqK_full h.2.1)) eq)
end
/-- the items of a list or tuple -/
def seqD : Dt → Option (List Dt)
  | .lst l => some l
  | .tup l => some l
  | _ => none
theorem seqD_of {d : Dt} {l : List Dt} (h : seqD d = some l) : d = .lst l ∨ d = .tup l := by
  cases d <;> cases h
  · exact .inl rfl
  · exact .inr rfl
def wZipU (wa wb : WE) : WI := fun δ k e => wa δ (fun x => wb δ (fun y => ∃ l r, seqD x = some l ∧ seqD y = some r ∧ k (zipped l r)) e) e
/-- enumerate over a list or a tuple -/
def iEnumU (K : PySem.W.Frag) (ta : TA) : TI := fun σ H R => ta σ H fun vs H1 => (∃ a xs, vs = [.ref a] ∧ SqL K H1 a xs ∧ R (Ite K a) H1) ∨ ∃ a xs, vs = [.ref a] ∧ SqT K H1 a xs ∧ R (Itet K a) H1
section
variable {X : Cx} {S : Su} {E : XK} {tg x y z : Expr} {w wa wb wc : WE} {p pos : Pos} {elts : List Expr} {kk : Nat} {tpos : Pos}
theorem xZipU (hg : Gl X "zip") (hm : X.mg "zip" = none) (h : PE X x (tP S E wa)) (h2 : PE X y (tP S E wb)) (hs : starEach [x, y] X.env = (false, eval x X.env) :: starEach [y] X.env := by rfl) (hpl : (backTo pos (starEach [y] X.env)).any (·.1) = false := by rfl) (hs2 : starEach [y] X.env = (false, eval y X.env) :: starEach [] X.env := by rfl) (hK : X.K = S.K := by rfl) :
    PI X (.Tuple elts kk tpos) (.Call (.Name "zip" p) [x, y] [] pos) (tPI S E (wZipU wa wb)) :=
  piTo (pi_zipK hg hm (pa_cons h (pa_cons h2 pa_nil hs2) hs) hs hpl) fun σ H R ⟨M, A, L, δ, k, e, f, hw, a, ax⟩ =>
  ⟨M, A, L, δ, _, e, f, hw, fun v d H1 s1 m1 hv hk => ⟨M, A, L, δ, _, e, f.step s1 m1, hk, fun u c H2 s2 m2 hu hk2 => by
    have hv2 := hv.same ((Stp.wide s2).hv f.mA)
    obtain ⟨l, r, e1, e2, hk3⟩ := hk2
    obtain ⟨ca, pa, vs, rfl, sa, qa⟩ := sq_of hv2 (seqD_of e1)
    obtain ⟨cb, pb, ws, rfl, sb, qb⟩ := sq_of hu (seqD_of e2)
    rw [hK]
    exact ⟨ca, cb, pa, pb, vs, ws, rfl, sqK_full sa, sqK_full sb, a _ _ _ H2 (s1.trans m1 s2) m2 (itS_zipK vs ws qa.len qb.len) ⟨⟨sa, qa⟩, sb, qb⟩ hk3⟩, ax.step s1 m1⟩, ax⟩
theorem pi_enumU (hg : Gl X "enumerate") (hm : X.mg "enumerate" = none) {ta : TA} (ha : PA X [x] ta) (hs : starEach [x] X.env = [(false, eval x X.env)] := by rfl) :
    PI X (.Tuple elts kk tpos) (.Call (.Name "enumerate" p) [x] [] pos) (iEnumU X.K ta) := by
  refine ⟨fun pins s σ H
        R I h => ?_⟩
  refine Call_ (ld_blt I hg hm boot_enumerate (PyProof.Rows.callWith_type1 (thn (ha.run pos pins s σ H _
        I h) fun us s1 ⟨vs, H1, I1, r1, q1⟩ => ?_) hs rfl))
  have fr : ∀ b ∈ [s1.heap.objs.size + 1, s1.heap.objs.size], FpOk X pins H1 b := fun b hb => by
    have le : s1.heap.objs.size ≤ b := by
      rcases List.mem_cons.mp
            hb with z | z
      · rw [z]; exact Nat.le_succ _
      · rw [List.mem_singleton.mp z]; exact Nat.le_refl _
    exact I1.fpOk le (I1.hok.fresh le)
  rcases q1 with ⟨a, xs, ex, hq, q⟩ | ⟨a, xs, ex, hq, q⟩
  · subst ex
    obtain ⟨u, rfl, ru⟩
          := vals1 r1
    obtain rfl : u = Value.ref
          a := ru
    obtain ⟨its, rv, p', hz⟩
          := I1.list hq
    exact call_enumerate_list p'.isList fun h' he hit hsz hk => wpAny_pyIter_enum he
      ⟨s1.heap.objs.size + 1, [s1.heap.objs.size + 1, s1.heap.objs.size], _, _, H1, rfl, I1.kept (t' := s1.toks) hk, turn_enum a (s1.heap.objs.size + 1) s1.heap.objs.size, ⟨⟨.none, he⟩, hit, Nat.succ_ne_self _⟩, fr, q⟩
  · subst ex
    obtain ⟨u, rfl, ru⟩
          := vals1 r1
    obtain rfl : u = Value.ref
          a := ru
    obtain ⟨its, rv, tp, hz⟩ := I1.tuple hq
    exact call_enumerate_tuple (items := its.toArray) tp fun h' he hit hk => wpAny_pyIter_enum he
      ⟨s1.heap.objs.size + 1, [s1.heap.objs.size + 1, s1.heap.objs.size], _, _, H1, rfl, I1.kept (t' := s1.toks) hk, turn_enumT a (s1.heap.objs.size + 1) s1.heap.objs.size, ⟨⟨.none, he⟩, hit, Nat.succ_ne_self _⟩, fr, q⟩
def wEnumU (w : WE) : WI := fun δ k e => w δ (fun d => ∃ l, seqD d = some l ∧ k (numbered 0 l)) e
theorem xEnum (hg : Gl X "enumerate") (hm : X.mg "enumerate" = none) (h : PE X x (tP S E w)) (hs : starEach [x] X.env = [(false, eval x X.env)] := by rfl) (hs2 : starEach [x] X.env = (false, eval x X.env) :: starEach [] X.env := by rfl) (hK : X.K = S.K := by rfl) :
    PI X (.Tuple elts kk tpos) (.Call (.Name "enumerate" p) [x] [] pos) (tPI S E (wEnumU w)) :=
  piTo (pi_enumU hg hm (pa_cons h pa_nil hs2) hs) fun σ H R ⟨M, A, L, δ, k, e, f, hw, a, ax⟩ =>
  ⟨M, A, L, δ, _, e, f, hw, fun v d H1 s1 m1 hv hk => by
    rw [hK]
    obtain ⟨l, e1, hk⟩ := hk
    rcases seqD_of e1 with rfl | rfl
    · obtain ⟨q, vs, rfl, sq, all⟩ := hv.list
      exact .inl ⟨q, vs, rfl, .inl (.inl (hv_le _ _ sq)), a _ _ _ H1 s1 m1 (itS_enum vs all.len) ⟨sq, all⟩ hk⟩
    · obtain ⟨q, vs, rfl, sq, all⟩ := hv.tuple
      exact .inr ⟨q, vs, rfl, sqT_full sq, a _ _ _ H1 s1 m1 (itS_enumT vs all.len) ⟨sq, all⟩ hk⟩, ax⟩
def wEnumL (w : WE) : WI := fun δ k e => w δ (fun d => ∃ l, seqD d = some l ∧ (match d with | .lst _ => True | _ => False) ∧ k (numbered 0 l)) e
theorem xEnumO (hg : Gl X "enumerate") (hm : X.mg "enumerate" = none) (h : PE X x (tPW S E w)) (hs : starEach [x] X.env = [(false, eval x X.env)] := by rfl) (hs2 : starEach [x] X.env = (false, eval x X.env) :: starEach [] X.env := by rfl) (hK : X.K = S.K := by rfl) :
    PI X (.Tuple elts kk tpos) (.Call (.Name "enumerate" p) [x] [] pos) (tPIC S E (wEnumL w)) :=
  piTo (pi_enum hg hm (pa_cons h pa_nil hs2) hs) fun σ H R ⟨M, A, L, δ, k, e, f, hw, a, ax⟩ =>
  ⟨M, A, L, δ, _, e, f, hw, fun v d H1 s1 m1 hv hk => by
    rw [hK]
    obtain ⟨l, e1, hk⟩ := hk
    rcases hv with hv | ⟨q, vs, ds, rfl, rfl, qL, e2, hv⟩
    · cases d with
      | lst l' =>
        cases e1
        obtain ⟨q, vs, rfl, sq, all⟩ := hv.list
        exact ⟨q, vs, rfl, .inl (.inl (hv_le _ _ sq)), a _ _ _ H1 s1 m1 (itS_enum vs all.len).c ⟨sq, all⟩ hk.2⟩
      | _ => exact hk.1.elim
    · cases e1
      exact ⟨q, vs, rfl, .inl (.inl e2), a _ _ _ H1 s1 m1 (itC_enum vs hv.len (f.notM qL)) ⟨e2, hv⟩ hk.2⟩, ax⟩
/-- reversed(list or tuple) -/
theorem itS_revT {M : Mu} {a : Addr} {ds : List Dt} (vs : List V) (ln : vs.length = ds.length) : ItS S M (RT.ItvT S.K a vs.length) ds.reverse (fun B H => SqT S.K (hv B H) a vs ∧ Das S M (hv B H) vs ds) := by
  refine ⟨fun B B' H H' s h => ⟨seqT_same s h.1, h.2.same s⟩, fun i B H hi h => ?_, fun B H h => by rw [List.length_reverse, ← ln]; exact Nat.le_refl _, fun i B H x H' d e h hd y => ?_⟩
  · have l : i < vs.length := by rw [ln]; simpa using hi
    have l2 : vs.length - 1 - i < vs.length := by omega
    exact ⟨l, vs, vs[vs.length - 1 - i], sqT_full h.1, by simp [l2]⟩
  · have hi : i < vs.length := by rw [ln]; have := (List.getElem?_eq_some_iff.mp e).1; simpa using this
    obtain ⟨rfl, e2⟩ := y
    rw [List.getElem?_reverse (by rw [← ln]; exact hi), ← ln] at e
    exact ⟨Same.refl _, h.2.all _ x d (e2 vs (sqT_full h.1)) e⟩
def wRevU (w : WE) : WI := fun δ k e => w δ (fun d => ∃ l, seqD d = some l ∧ k l.reverse) e
theorem xRevA (hg : Gl X "reversed") (hm : X.mg "reversed" = none) (h : PE X x (tP S E w)) (hs : starEach [x] X.env = (false, eval x X.env) :: starEach [] X.env := by rfl) (hK : X.K = S.K := by rfl) :
    PI X tg (.Call (.Name "reversed" p) [x] [] pos) (tPI S E (wRevU w)) :=
  piTo (RT.pi_revA hg hm h hs) fun σ H R ⟨M, A, L, δ, k, e, f, hw, a, ax⟩ =>
  ⟨M, A, L, δ, _, e, f, hw, fun v d H1 s1 m1 hv hk => by
    rw [hK]
    obtain ⟨l, e1, hk⟩ := hk
    rcases seqD_of e1 with rfl | rfl
    · obtain ⟨q, vs, rfl, sq, all⟩ := hv.list
      exact ⟨q, vs, rfl, .inl ⟨.inl (.inl (hv_le _ _ sq)), a _ _ _ H1 s1 m1 (itS_rev vs all.len) ⟨sq, all⟩ hk⟩⟩
    · obtain ⟨q, vs, rfl, sq, all⟩ := hv.tuple
      exact ⟨q, vs, rfl, .inr ⟨sqT_full sq, a _ _ _ H1 s1 m1 (itS_revT vs all.len) ⟨sq, all⟩ hk⟩⟩, ax⟩
end
/-! ### y = [.. for ..] -/
section
variable {X : Cx} {S : Su} {E : XK} {st : Stmt} {wi : WI} {g : WG} {wt : WT} {we : WE} {is vs : List Nat} {i : Nat}
theorem xsLcOwn (h : PS X st (tAsg (tLc (tPIC S E wi) (tPG S is g) (tPT S E0' wt) (tP S E0' we) vs) (gName i))) (his : ∀ i ∈ is, i ∈ vs) : PS X st (tPS S E (wOwn i (wLc vs wi g wt we))) :=
  psTo h fun D σ H q => lcT his _ _ _ (ownT D σ H q)
theorem xsLcSet (h : PS X st (tAsg (tLc (tPIC S E wi) (tPG S is g) (tPT S E0' wt) (tP S E0' we) vs) (gName i))) (his : ∀ i ∈ is, i ∈ vs) : PS X st (tPS S E (wSet i (wLc vs wi g wt we))) :=
  psTo h fun D σ H q => lcT his _ _ _ (by
    obtain ⟨M, A, L, δ, k, e, f, hw, a, ax⟩ := setT D σ H q
    exact ⟨M, A, L, δ, k, e, f, hw, a.fresh f.hd, ax⟩)
end
theorem _root_.L2.Room.units65 {k : Nat} {A : Around} (r : L2.Room k A) : A.units + 65 < cLine := by have := r.un; omega
theorem get_seq {X : Cx} : PGet X (rIxL X.K) := by
  intro pins s σ H o i ov iv Q I rx ry h
  obtain ⟨p, xs, i, z, rfl, rfl,
        hq, he, q⟩ := h
  cases rx
  obtain ⟨t, rfl⟩ := ry
  obtain ⟨its, r, pl, hz⟩
        := I.list hq
  obtain ⟨j, h1, h2, h3, h4, h5⟩
        := atI_get he
  obtain ⟨w, ew, rw'⟩
        := r.get h2
  have hl := r.length
  have hn := line63
  have fin : EP X pins σ Q w s :=
        ⟨z, H, I, rw', q⟩
  by_cases h0 : 0 ≤ i
  · have hj : i.toNat = j := by
      rw [seqIndex_of h0 h5] at h1
      exact Option.some.inj h1
    exact wpAny_getItem_list pl.isList h0 (by omega) (by rw [hj]; simpa using ew) fin
  · have hj : (i + (its.toArray.size :
        Int)).toNat = j := by
      rw [seqIndex_neg (by omega)
            h4] at h1
      rw [List.size_toArray, ← hl]
      exact Option.some.inj h1
    exact wpAny_getItem_list_neg pl.isList (by omega) (by rw [List.size_toArray] <;> omega) (by omega) (by rw [hj]; simpa using ew) fin
end LW

set_option Elab.async false
set_option linter.all false
set_option maxRecDepth 100000
set_option maxHeartbeats
      1000000
/-! max(xs, default=n), xs a list of ints, maybe empty -/
namespace LW
open L2 PySem.Spec PyProof.Rows PySem
theorem args_maxD (a d : Value) : argsOk "max" ⟨[a], [(Str.ofString "default", d)]⟩ := by unfold argsOk; kernel_rfl
theorem maxN : (toString "max" ++ toString ".loop" : String) = "max.loop" := by decide
section
variable {prog : Program} {w : World} {A : Around} {R : Result → Shared → Prop} {I : Addr} {fp wr : List Addr} {n : Nat} {P : Nat → Value → Prop} {St : Nat → Heap → Prop} {d : Value}
/-- the loop with a best one already: what was given beside plays no part -/
theorem maxD_more (W : Walks prog w A.in1 I fp wr n P St) (bt : Nat → Nat → Bool) (cmp : CmpOf prog w A.in1 .Gt P bt) (S : Addr) (nS : S ∉ fp) : ∀ (k j : Nat) (s : Shared) (vb : Value) (c : Nat), n - (j + 1) = k → j + 1 ≤ n → St (j + 1) s.heap → P (argBest bt j) vb →
    s.heap.get? S = some { cls := .type "list", data := .seq #[vb, vb] c } →
    (∀ v h1 t1, P (argBest bt (n - 1)) v → (∀ b o, b ∉ wr → b ≠ S → s.heap.get? b = some o → h1.get? b = some o) → R (.ok (.ret v)) { s with heap := h1, toks := t1 }) →
    codeAny (model prog w) A (.builtin "max.loop" ⟨[.ref I, .none, .ref S], [(Str.ofString "default", d)]⟩) R s := by
  have nW : S ∉ wr := fun z => nS (W.sub _ z)
  intro k
  induction k with
  | zero =>
    intro j s vb c ek hj st hb hS fin
    have ej : j + 1 = n := by omega
    refine codeAny_builtin
          F.entry_max_loop ?_
    rw [Around.under_plainId
          F.plain_max_loop _]
    refine wpAny_bind (wpAny_seqItems
          hS rfl ?_)
    refine wpAny_bind (wpAny_tryCatch (W.done s _ _ (ej ▸ st) fun h1 t1 kp => ?_))
    have hS1 := kp S _ nW hS
    refine wpAny_bind ?_
    refine wpAny_updateSeq hS1 rfl (wpAny_bind (wpAny_letGo (wpAny_pure ?_)))
    exact fin vb _ t1 (by rw [← ej]; exact hb) fun b o nb nbS e => (Heap.get?_update_other _ _ (Ne.symm nbS)).trans (kp b o nb e)
  | succ k ih =>
    intro j s vb c ek hj st hb hS fin
    have lt : j + 1 < n := by omega
    refine codeAny_builtin
          F.entry_max_loop ?_
    rw [Around.under_plainId
          F.plain_max_loop _]
    refine wpAny_bind (wpAny_seqItems
          hS rfl ?_)
    refine wpAny_bind (wpAny_tryCatch (W.item (j + 1) s _ _ lt st fun v h1 t1 hv st1 kp => ?_))
    have hS1 := kp S _ nW hS
    show wpAny _ A.in1 (tryCatch (holding [v, v] (richCompare CmpOp.Gt v vb >>= _)) _ >>= _) _ _ _
    refine wpAny_bind (wpAny_tryCatch (wpAny_holding (wpAny_bind (cmp (j + 1) (argBest bt j) v vb _ _ _ hv hb ?_))))
    refine wpAny_bind (wpAny_holding
          (wpAny_truthy_bool ?_))
    refine wpAny_bind (wpAny_letGo
          (wpAny_pure ?_))
    cases better : bt (j + 1) (argBest bt j) with
    | true =>
      simp only [if_true]
      refine wpAny_bind ?_
      refine wpAny_updateSeq hS1 rfl (wpAny_bind (wpAny_letGo ?_))
      rw [maxN]
      refine wpAny_pure ⟨plainId_quiet F.plain_max_loop _, ih (j + 1) _ v _ (by omega) lt (W.frame _ _ _ st1 fun b hbf o e => ?_) (by simp only [argBest, better, if_true]; exact hv) (Heap.get?_update_self _ hS1 rfl) fun v2 h2 t2 hv2 kp2 => ?_⟩
      · exact (Heap.get?_update_other _ _ (fun z : S = b => nS (by rw [z]; exact hbf))).trans e
      · exact fin v2 h2 t2 hv2 fun b o nb nbS e => kp2 b o nb nbS ((Heap.get?_update_other _ _ (Ne.symm nbS)).trans (kp b o nb e))
    | false =>
      simp only [Bool.false_eq_true,
            if_false]
      refine wpAny_bind
            (wpAny_letGo ?_)
      rw [maxN]
      exact wpAny_pure ⟨plainId_quiet F.plain_max_loop _, ih (j + 1) _ vb c (by omega) lt st1 (by simp only [argBest, better, Bool.false_eq_true, if_false]; exact hb) hS1 fun v2 h2 t2 hv2 kp2 =>
        fin v2 h2 t2 hv2 fun b o nb nbS e => kp2 b o nb nbS (kp b o nb e)⟩
/-- its first turn, some item -/
theorem maxD_first (W : Walks prog w A.in1 I fp wr n P St) (bt : Nat → Nat → Bool) (cmp : CmpOf prog w A.in1 .Gt P bt) (S : Addr) (nS : S ∉ fp) (hn : 0 < n) {s : Shared} {c : Nat} (st : St 0 s.heap)
    (hS : s.heap.get? S = some { cls := .type "list", data := .seq #[] c })
    (fin : ∀ v h1 t1, P (argBest bt (n - 1)) v → (∀ b o, b ∉ wr → b ≠ S → s.heap.get? b = some o → h1.get? b = some o) → R (.ok (.ret v)) { s with heap := h1, toks := t1 }) :
    codeAny (model prog w) A (.builtin "max.loop" ⟨[.ref I, .none, .ref S], [(Str.ofString "default", d)]⟩) R s := by
  have nW : S ∉ wr := fun z => nS (W.sub _ z)
  refine codeAny_builtin
        F.entry_max_loop ?_
  rw [Around.under_plainId
        F.plain_max_loop _]
  refine wpAny_bind (wpAny_seqItems
        hS rfl ?_)
  refine wpAny_bind (wpAny_tryCatch (W.item 0 s _ _ hn st fun v h1 t1 hv st1 kp => ?_))
  have hS1 := kp S _ nW hS
  show wpAny _ A.in1 (updateSeq S (fun _ => Array.mk [v, v]) >>= _) _ _ _
  refine wpAny_bind ?_
  refine wpAny_updateSeq hS1 rfl ?_
  rw [maxN]
  refine wpAny_pure ⟨plainId_quiet F.plain_max_loop _, maxD_more W bt cmp S nS _ 0 _ v _ rfl hn (W.frame _ _ _ st1 fun b hbf o e => ?_) hv (Heap.get?_update_self _ hS1 rfl) fun v2 h2 t2 hv2 kp2 => ?_⟩
  · exact (Heap.get?_update_other _ _ (fun z : S = b => nS (by rw [z]; exact hbf))).trans e
  · exact fin v2 h2 t2 hv2 fun b o nb nbS e => kp2 b o nb nbS ((Heap.get?_update_other _ _ (Ne.symm nbS)).trans (kp b o nb e))
/-- its first turn, no item -/
theorem maxD_none (W : Walks prog w A.in1 I fp wr n P St) (S : Addr) (nS : S ∉ fp) (hn : n = 0) {s : Shared} {c : Nat} (st : St 0 s.heap)
    (hS : s.heap.get? S = some { cls := .type "list", data := .seq #[] c })
    (fin : ∀ h1 t1, (∀ b o, b ∉ wr → b ≠ S → s.heap.get? b = some o → h1.get? b = some o) → R (.ok (.ret d)) { s with heap := h1, toks := t1 }) :
    codeAny (model prog w) A (.builtin "max.loop" ⟨[.ref I, .none, .ref S], [(Str.ofString "default", d)]⟩) R s := by
  refine codeAny_builtin
        F.entry_max_loop ?_
  rw [Around.under_plainId
        F.plain_max_loop _]
  refine wpAny_bind (wpAny_seqItems
        hS rfl ?_)
  refine wpAny_bind (wpAny_tryCatch (W.done s _ _ (hn ▸ st) fun h1 t1 kp => ?_))
  show wpAny _ A.in1 (rule _
        >>= _) _ _ _
  refine wpAny_bind
        (wpAny_rule ?_)
  refine wpAny_pure ?_
  exact fin h1 t1 fun b o nb _ e => kp b o nb e
end
section
variable {prog : Program} {w : World} {A : Around} {E : Value → Shared → Prop} {s : Shared} {l : Addr} {xs : Array (Int × Tok)} {d : Value}
theorem maxD_list {Q : Value → Shared → Prop} (hh : A.handled = none) (hl : s.heap.IsList l (intItems xs))
    (h0 : xs.size = 0 → ∀ h' tk, (∀ b o, s.heap.get? b = some o → h'.get? b = some o) → Q d { s with heap := h', toks := tk })
    (h : 0 < xs.size → ∀ v h' tk, (intItems xs)[argBest (fun i j => decide (numAt xs i > numAt xs j)) (xs.size - 1)]? = some v → (∀ b o, s.heap.get? b = some o → h'.get? b = some o) → Q v { s with heap := h', toks := tk }) :
    wpAny (model prog w) A (call (.builtin "max") [.ref l] [(Str.ofString
          "default", d)]) Q E s := by
  refine PyProof.Rows.kmk_tree F.kind_max F.plain_max F.entry_max (args_maxD _ _) ?_
  refine wpAny_bind (wpAny_of_eq (show Builtin.Builtins.bindParams "max" ["key", "default"] 0 ⟨[], [(Str.ofString
        "default", d)]⟩ = pure [none, some d] from rfl) ?_)
  refine wpAny_bind
        (wpAny_pure ?_)
  refine wpAny_bind (iter_intList hl fun s2 e st fps nl => ?_)
  subst e
  refine wpAny_bind
        (wpAny_newObj_type ?_)
  have W := Walks.list (prog := prog) (w := w) (A := A.in1) hh s.heap.objs.size l nl (intItems xs)
  have nS : (s.heap.push { cls := .type "list_iterator", data := .fields #[.ref l, .int 0 0] } : Heap).objs.size ∉ [s.heap.objs.size, l] := fun z => Nat.lt_irrefl _ (fps _ z)
  have kp0 : ∀ b o, s.heap.get? b = some o → b ∉ [s.heap.objs.size] ∧ b ≠ (s.heap.push { cls := .type "list_iterator", data := .fields #[.ref l, .int 0 0] } : Heap).objs.size := fun b o e => by
    have lt := Heap.lt_size e
    refine ⟨fun z => ?_,
          fun z => ?_⟩
    · rw [List.mem_singleton] at z
      rw [z] at lt
      exact Nat.lt_irrefl _ lt
    · rw [z, Heap.size_push] at lt
      exact Nat.lt_irrefl _ (Nat.lt_of_succ_lt lt)
  rw [maxN]
  by_cases z : xs.size = 0
  · refine wpAny_pure ⟨plainId_quiet F.plain_max_loop _, maxD_none W _ nS (by simpa [intItems] using z) (W.frame _ _ _ st fun b _ o e => Heap.get?_push_of_some _ e) (Heap.get?_push_size _ rfl) fun h1 t1 kp => ?_⟩
    exact h0 z h1 t1 fun b o e => kp b o (kp0 b o e).1 (kp0 b o e).2 (Heap.get?_push_of_some _ (Heap.get?_push_of_some _ e))
  · have pos : 0 < xs.size := Nat.pos_of_ne_zero z
    refine wpAny_pure ⟨plainId_quiet F.plain_max_loop _, maxD_first W _ (CmpOf.ints_gt (numAt xs) (fun _ _ => intItems_at)) _ nS (by simpa [intItems] using pos) (W.frame _ _ _ st fun b _ o e => Heap.get?_push_of_some _ e) (Heap.get?_push_size _ rfl) fun v h1 t1 hv kp => ?_⟩
    exact h pos v h1 t1 (by simpa [intItems] using hv) fun b o e => kp b o (kp0 b o e).1 (kp0 b o e).2 (Heap.get?_push_of_some _ (Heap.get?_push_of_some _ e))
end
def rMaxD (K : PySem.W.Frag) : List V → List V → Hp → VK → Prop := fun vs zs H Q => ∃ (a : Addr) (ns : List Int) (n : Int), vs = [V.ref a] ∧ zs = [.int n] ∧ SqL K H a (ns.map V.int) ∧ (ns = [] → Q (.int n) H) ∧ (ns ≠ [] → ∀ m, m ∈ ns → (∀ y, y ∈ ns → y ≤ m) → Q (.int m) H)
theorem cr_maxD {X : Cx} (hc : X.calm = true) : CallRK X (.builtin "max") ["default"] (rMaxD X.K) := by
  intro pins s σ H vs zs us
        ws Q I r rz h
  obtain ⟨a, ns, n, rfl, rfl, hs, q0, q1⟩ := h
  obtain ⟨its, rv, hl, _⟩
        := I.list hs
  obtain ⟨u, rfl, ru⟩
        := vals1 r
  obtain rfl : u = Value.ref
        a := ru
  obtain ⟨u2, rfl, ru2⟩ := vals1 rz
  have hi := rv.ints
  obtain ⟨xs, e⟩ :=
        hi.allInts.items
  have hn : numsOf (intItems xs).toList = ns := by
        rw [← e]; exact hi.numsOf
  rw [nums_intItems] at hn
  subst hn
  have hl2 : s.heap.IsList a its.toArray := hl.isList
  rw [e] at hl2
  refine maxD_list (I.ok.hd hc) hl2 (fun z h' tk kp => ?_) (fun pos v h' tk hv kp => ?_)
  · exact ⟨.int n, H, I.kept kp, ru2, q0 (by rw [List.map_eq_nil_iff]; exact List.length_eq_zero_iff.mp (by simpa using z))⟩
  · obtain ⟨t, rfl⟩ := intItems_at hv
    obtain ⟨h1, h2⟩ := argBest_gt (numAt
          xs) (xs.size - 1)
    refine ⟨.int _, H, I.kept kp, ⟨_, rfl⟩, q1 (fun z => ?_) _ ?_ fun y hy => ?_⟩
    · rw [List.map_eq_nil_iff] at z
      rw [← Array.length_toList, z] at pos
      exact absurd pos (Nat.lt_irrefl 0)
    · rw [numAt_eq]
      exact PySem.getD_mem (by
        rw [List.length_map,
              Array.length_toList]
        omega)
    · obtain ⟨j, hj, rfl⟩ := mem_getD hy
      rw [List.length_map,
            Array.length_toList] at hj
      rw [← numAt_eq]; exact h2
            j (by omega)
/-- .. on plain data -/
def gMaxD (xs zs : List Dt) (k : Dt → Prop) : Prop := match xs, zs with
  | [.lst l], [.int n] => ∃ ns, intsOf l = some ns ∧ (ns = [] → k (.int n)) ∧ (ns ≠ [] → ∀ m, m ∈ ns → (∀ y ∈ ns, y ≤ m) → k (.int m))
  | _, _ => False
def wCalK (g : List Dt → List Dt → (Dt → Prop) → Prop) (wa wk : WA) : WE := fun δ k e => wa δ (fun xs => wk δ (fun zs => g xs zs k) e) e
section
variable {X : Cx} {S : Su} {E : XK} {x : Expr} {ws wk : WA}
theorem xMaxD (h : PE X x (tCKw (rMaxD S.K) (tPAW S E ws) (tPA S E wk))) : PE X x (tP S E (wCalK gMaxD ws wk)) := peTo h fun σ H Q ⟨M, A, L, δ, k, e, f, hw, a, ax⟩ =>
  ⟨M, A, L, δ, _, e, f, hw, fun vs ds H1 s1 m1 hv hk => ⟨M, A, L, δ, _, e, f.step s1 m1, hk, fun us es H2 s2 m2 hu hk2 => by
    replace hk2 : gMaxD ds es k := hk2
    unfold gMaxD at hk2
    split at hk2
    · obtain ⟨v, rfl, hx⟩ := hv.one
      obtain ⟨u, ws, rfl, hu, r⟩ := hu.of_cons
      rw [r.of_nil]
      obtain ⟨ns, e1, q0, q1⟩ := hk2
      obtain ⟨p, rfl, e2⟩ := ints_at (hx.step s2 f.mA f.dis) e1
      refine ⟨p, ns, _, rfl, by rw [hu.int_eq], .inl (.inl e2), fun z => a _ _ _ (s1.trans m1 s2) m2 (.int _) (q0 z), fun z mm h1 h2 => a _ _ _ (s1.trans m1 s2) m2 (.int _) (q1 z mm h1 h2)⟩
    · exact hk2.elim, ax.step s1 m1⟩, ax⟩
end
end LW

set_option Elab.async false
set_option linter.all false
set_option maxRecDepth 100000
set_option maxHeartbeats 4000100
/-! x == y and x != y by a class's own __eq__, with either answer -/
namespace LW
open L2 PySem.Spec PyProof.Rows PySem
section
variable {M : Model} {prog : Program} {w : World} {A : Around} {E : Value → Shared → Prop} {s : Shared} {K :
      PySem.W.Frag} {x C : Addr} {ox : Obj} {od : Option Obj}
theorem ifBound_ne {args : List Value} {Q : Option Value → Shared → Prop} (X : K.In s.heap) (I : PySem.W.InstAt s.heap x ox C od) (hs : PySem.W.findIn K (.ref C) "__ne__" = some (some (.builtin "object.__ne__")))
    (h : wpAny M A (call (.builtin "object.__ne__") (.ref x :: args)) (fun v => Q (some v)) E s) : wpAny M A (callSpecialIfBound? (.ref x) "__ne__" args) Q E s := by
  simp only [callSpecialIfBound?,
        bindSpecialIfBound?]
  refine wpAny_holding (wpAny_bind (wpAny_bind (wpAny_bind (I.type.here
        ((PySem.W.looks_findIn X hs).here ?_)))))
  refine wpAny_bind (wpAny_askSetting
        (wpAny_ite ?_))
  have last : wpAny M A (call (.builtin "object.__ne__") ([.ref x] ++ args) >>= fun v => pure (some v)) Q E s := wpAny_bind (wpAny_mono h (fun v s' z => wpAny_pure z) fun _ _ z => z)
  split
  · exact wpAny_bind (wpAny_of_eq (F.cmp_object.ne.bind _) (wpAny_pure (by exact last)))
  · exact wpAny_tryCatch (wpAny_bind (wpAny_of_eq (F.cmp_object.ne.bind _) (wpAny_pure (by exact last))))
theorem entry_ne {y : Value} {Q : Fin → Shared → Prop} (hu : A.units < cLine)
    (h : wpAny M A (callSpecialIfBound? (.ref x) "__eq__" [y]) (fun r s' => ∃ b, r = some (.bool b) ∧ Q (.done (.ret (.bool (!b)))) s') E s) : wpAny M A (Builtin.«object.__ne__» ⟨[.ref x, y], []⟩) Q E s := by
  unfold Builtin.«object.__ne__»; show wpAny M A (cRoomFor "comparison" [.ref x, y] >>= _) Q E s
  refine wpAny_bind (wpAny_cRoomFor
        hu ?_)
  refine wpAny_bind (wpAny_mono h (fun r s' z => ?_) fun _ _ z => z)
  obtain ⟨b, rfl, q⟩ := z
  exact wpAny_bind (wpAny_truthy_bool (wpAny_pure q))
theorem call_ne {y : Value} {Q : Value → Shared → Prop} (X : K.In s.heap) (I : PySem.W.InstAt s.heap x ox C od) (hm : PySem.W.mroIn K C (.type "object") = some true) (hu : A.in1.units < cLine)
    (h : wpAny (model prog w) A.in1 (callSpecialIfBound? (.ref x) "__eq__" [y]) (fun r s' => ∃ b, r = some (.bool b) ∧ Q (.bool (!b)) s') E s) :
    wpAny (model prog w) A (call (.builtin "object.__ne__") [.ref x, y]) Q E s :=
  wpAny_call (codeAny_call_builtin F.cmp_object.ne.plain F.cmpEntry_ne (PySem.W.check_slot F.cmpKind_ne F.cmpSplit_ne (I.type.andThen (PySem.W.looks_mroIn X hm)) (F.cmpArgs_ne _ _) (entry_ne (A := A.in1) hu h)))
end
/-- what == of two instances of the class asks -/
structure OwnEqs (P : Program) (w : World) (K : PySem.W.Frag) (mg : Str → Option Value) (base : Heap) (n : Nat) (C : Addr) (sp : Sp) : Prop where
  ex : ∃ (f : Addr) (fd : FuncData) (ps : List Str), FnOk P w K mg base CX0 n f fd ps sp ∧ PySem.W.findIn K (.ref C) "__eq__" = some (some (.ref f)) ∧ PySem.W.isFn K (.ref f) = true ∧ Binds K fd ps []
  ne : PySem.W.findIn K (.ref C) "__ne__" = some (some (.builtin "object.__ne__"))
  mro : PySem.W.mroIn K C (.type "object") = some true
section
variable {X : Cx} {n k : Nat} {C : Addr} {sp : Sp} {f : Addr} {fd : FuncData} {ps : List Str}
theorem call_own {A : Around} {pins : List (Addr × Obj)} {s : Shared} {σ : L2.St} {H : Hp} {a b : Addr} {R : Bool → Hp → Prop} (F : FnOk X.prog X.w X.K X.mg X.base CX0 n f fd ps sp) (hb : Binds X.K fd ps []) (sb : Sub X n A) (I : Inv X pins σ H s)
    (want : sp [.ref a, .ref b] H (fun v H' => ∃ t, v = .bl t ∧ R t H') E0) :
    wpAny (model X.prog X.w) A (call (.ref f) [.ref a, .ref b]) (fun v s' => ∃ t, v = .bool t ∧ ∃ H', Inv X pins σ H' s' ∧ R t H') X.xe s := by
  have e0 : Env0 X.prog X.w X.K X.mg X.base
        A X.stack s H := by
    have e := I.env0
    exact ⟨by rw [sb.fr]; exact e.frames, e.mod, e.bs, e.bsz,
          e.funs, e.frf, e.hok, e.bare⟩
  have hl := F.len _ _ _ _ want
  have r2 : Vals [V.ref a, V.ref b] [Value.ref a, Value.ref b]
        := .cons rfl (.cons rfl .nil)
  refine wpAny_call (codeAny_mono (F.run A X.stack s H ⟨[.ref a, .ref b], []⟩ [.ref a, .ref b] [.ref a, .ref b] _ E0 sb.room e0 (by
    have := hb s [.ref a, .ref b] I.kIn
          (by simpa using hl)
    simpa using this) r2 want) fun r s' hq => ?_)
  cases r with
  | error e => exact pass0 pins σ H s e s' I hq
  | ok fl =>
    cases fl with
    | ret u =>
      obtain ⟨z, H', I', rz, t, ez, q⟩ := I.after hq
      subst ez
      cases rz
      exact ⟨t, rfl, H', I', q⟩
    | next => exact False.elim hq
    | brk => exact False.elim hq
    | cont => exact False.elim hq
def rOwn (C : Addr) (sp : Sp) (g : Bool → Bool) : R2 := fun x y H Q => ∃ a b dx dy fs gs, x = .ref a ∧ y = .ref b ∧ H a = some (.ins C dx fs) ∧ H b = some (.ins C dy gs) ∧ sp [.ref a, .ref b] H (fun v H' => ∃ t, v = .bl t ∧ Q (.bl (g t)) H') E0
theorem op_eqO (cl : OwnEqs X.prog X.w X.K X.mg X.base n C sp) (hr : Room k X.A) (hk : n ≤ k) : OpR X (compareOp .Eq) (rOwn C sp id) := by
  intro pins s σ H x y v u
        Q I rx ry hq
  obtain ⟨a, b, dx, dy, fs, gs, rfl, rfl, ha, hb', want⟩ := hq
  obtain ⟨f, fd, ps, F, hs, hf, hb⟩ := cl.ex
  obtain rfl : v = Value.ref
        a := rx
  obtain rfl : u = Value.ref
        b := ry
  have sb : Sub X n X.A := ⟨hr.mono hk, rfl⟩
  obtain ⟨mA, J, _⟩ :=
        ins_get I.hok ha
  obtain ⟨mB, J', _⟩ := ins_get
        I.hok hb'
  obtain ⟨od, J, _⟩ := J.look
  obtain ⟨od', J', _⟩
        := J'.look
  obtain ⟨m, hF⟩ := I.fr
  show wpAny (model X.prog X.w) X.A (richCompare .Eq (.ref a) (.ref b)) (EP X pins σ Q) X.xe s
  refine PySem.W.cmp_K (op := .Eq) (tb := .ref C) sb.room.units0 hF I.ok.mod.kin J
        J'.type (by simp [PySem.W.notFirst]) hs hf ?_
  refine wpAny_mono (call_own F hb sb I want) (fun v s' z => ?_) fun _ _ z => z
  obtain ⟨t, rfl, H', I', q⟩ := z
  exact ⟨.bl t, H', I', rfl, q⟩
theorem op_neO (cl : OwnEqs X.prog X.w X.K X.mg X.base n C sp) (hr : Room k X.A) (hk : n + 1 ≤ k) : OpR X (compareOp .NotEq) (rOwn C sp not) := by
  intro pins s σ H x y v u
        Q I rx ry hq
  obtain ⟨a, b, dx, dy, fs, gs, rfl, rfl, ha, hb', want⟩ := hq
  obtain ⟨f, fd, ps, F, hs, hf, hb⟩ := cl.ex
  obtain rfl : v = Value.ref
        a := rx
  obtain rfl : u = Value.ref
        b := ry
  have sb : Sub X (n + 1) X.A := ⟨hr.mono hk, rfl⟩
  obtain ⟨mA, J, _⟩ :=
        ins_get I.hok ha
  obtain ⟨mB, J', _⟩ := ins_get
        I.hok hb'
  obtain ⟨od, J, _⟩ := J.look
  obtain ⟨od', J', _⟩
        := J'.look
  have X0 := I.kIn
  have one : wpAny (model X.prog X.w) X.A (tryCompare (.ref a) (cmpInfo .NotEq).2.1 (.ref b)) (fun r s' => ∃ v, r = some v ∧ EP X pins σ Q v s') X.xe s := by
    show wpAny (model X.prog X.w) X.A (tryCompare (.ref a) "__ne__" (.ref b)) _ X.xe s
    unfold tryCompare
    refine wpAny_bind (ifBound_ne X0 J cl.ne (call_ne X0 J cl.mro sb.in1.room.units0 ?_))
    refine PySem.W.ifBound_K X0 J hs hf ?_
    refine wpAny_mono (call_own F hb sb.in1 I want) (fun v s' z => ?_) fun _ _ z => z
    obtain ⟨t, rfl, H', I', q⟩ := z
    exact ⟨t, rfl, wpAny_pure ⟨_, rfl, .bl (!t), H', I', rfl, q⟩⟩
  show wpAny (model X.prog X.w) X.A (richCompare .NotEq (.ref a) (.ref b)) (EP X pins σ Q) X.xe s
  unfold richCompare
  simp only [oneThing_ref]
  refine wpAny_holding (wpAny_bind (wpAny_cRoomFor sb.room.units0 ?_))
  refine wpAny_bind (J.type.here (wpAny_bind (J'.type.here ?_)))
  split
  · rename_i q
    simp at q
  · refine wpAny_bind
        (wpAny_pure ?_)
    simp only [Bool.false_eq_true,
          if_false]
    refine wpAny_bind (wpAny_mono one (fun r s' z
          => ?_) fun _ _ e => e)
    obtain ⟨v, rfl, hq⟩ := z
    exact wpAny_pure hq
end
end LW

set_option Elab.async false
set_option linter.all false
set_option maxRecDepth 100000
set_option maxHeartbeats 4000100
/-! str(o), o of an own class with its own __str__ -/
namespace LW
open L2 PySem.Spec PyProof.Rows PySem
structure OwnStr (P : Program) (w : World) (K : PySem.W.Frag) (mg : Str → Option Value) (base : Heap) (n : Nat) (C : Addr) (sp : Sp) : Prop where
  ex : ∃ (f : Addr) (fd : FuncData) (ps : List Str), FnOk P w K mg base CX0 n f fd ps sp ∧ PySem.W.findIn K (.ref C) "__str__" = some (some (.ref f)) ∧ PySem.W.isFn K (.ref f) = true ∧ Binds K fd ps []
section
variable {X : Cx} {n k : Nat} {C : Addr} {sp : Sp} {f : Addr} {fd : FuncData} {ps : List Str}
theorem call_own1 {A : Around} {pins : List (Addr × Obj)} {s : Shared} {σ : L2.St} {H : Hp} {a : Addr} {R : Str → Hp → Prop} (F : FnOk X.prog X.w X.K X.mg X.base CX0 n f fd ps sp) (hb : Binds X.K fd ps []) (sb : Sub X n A) (I : Inv X pins σ H s)
    (want : sp [.ref a] H (fun v H' => ∃ y, v = .str y ∧ R y H') E0) :
    wpAny (model X.prog X.w) A (call (.ref f) [.ref a]) (fun v s' => ∃ y u, v = .str y u ∧ ∃ H', Inv X pins σ H' s' ∧ R y H') X.xe s := by
  have e0 : Env0 X.prog X.w X.K X.mg X.base
        A X.stack s H := by
    have e := I.env0
    exact ⟨by rw [sb.fr]; exact e.frames, e.mod, e.bs, e.bsz,
          e.funs, e.frf, e.hok, e.bare⟩
  have hl := F.len _ _ _ _ want
  have r1 : Vals [V.ref a] [Value.ref a] := .cons rfl .nil
  refine wpAny_call (codeAny_mono (F.run A X.stack s H ⟨[.ref a], []⟩ [.ref a] [.ref a] _ E0 sb.room e0 (by
    have := hb s [.ref a] I.kIn (by simpa using hl)
    simpa using this) r1 want) fun r s' hq => ?_)
  match r, hq with
  | .error e, hq => exact pass0 pins σ H s e s' I hq
  | .ok (.ret u), hq =>
    obtain ⟨z, H', I', rz, y, ez, q⟩ := I.after hq
    subst ez
    obtain ⟨t, rfl⟩ := rz
    exact ⟨y, t, rfl, H', I', q⟩
  | .ok .next, hq => exact False.elim hq
  | .ok .brk, hq => exact False.elim hq
  | .ok .cont, hq => exact False.elim hq
def rStrO (C : Addr) (sp : Sp) : List V → Hp → VK → Prop := fun xs H Q => ∃ a dx fs, xs = [.ref a] ∧ H a = some (.ins C dx fs) ∧ sp [.ref a] H (fun v H' => ∃ y, v = .str y ∧ Q (.str y) H') E0
theorem call_strO (cl : OwnStr X.prog X.w X.K X.mg X.base n C sp) (hr : Room k X.A) (hk : n + 2 ≤ k) : CallR X (.type "str") (rStrO C sp) := by
  intro pins s σ H xs
        us Q I r h
  obtain ⟨a, dx, fs, rfl, ha, want⟩ := h
  obtain ⟨f, fd, ps, F, hs, hf, hb⟩ := cl.ex
  obtain ⟨u, rfl, ru⟩
        := vals1 r
  obtain rfl : u = Value.ref
        a := ru
  have sb : Sub X (n + 2) X.A := ⟨hr.mono hk, rfl⟩
  obtain ⟨mA, J, _⟩ :=
        ins_get I.hok ha
  obtain ⟨od, J, _⟩ := J.look
  refine PySem.W.kso_call sb.in1.in1.room.units0 I.kIn J hs hf ?_
  refine wpAny_mono (call_own1 F hb sb.in1.in1 I want) (fun v s' z => ?_) fun _ _ z => z
  obtain ⟨y, t, rfl, H', I', q⟩ := z
  exact ⟨.str y, H', I', ⟨t, rfl⟩, q⟩
end
end LW

set_option Elab.async false
set_option linter.all false
set_option maxRecDepth 100000
set_option maxHeartbeats 4000100
/-! more built-ins on plain data: repr, sorted(set(..)), str and isinstance of things of one's own -/
namespace LW
open L2 PySem.Spec PyProof.Rows PySem
section
variable {X : Cx}
def rReprV (K : PySem.W.Frag) : List V → Hp → VK → Prop := fun xs H Q => ∃ (v : V) (d : PyData), xs = [v] ∧ D K H v d ∧ d.showable = true ∧ d.hasDict = false ∧ d.depth ≤ 60 ∧ d.shown.length ≤ sizeLine ∧ Q (.str d.shown) H
/-- repr(x), x data without dicts -/
theorem call_reprV (quiet : X.A.guards = some []) {k : Nat} (hr : Room k X.A) : CallR X (.builtin "repr") (rReprV X.K) := by
  intro pins s σ H xs
        us Q I r h
  obtain ⟨v, d, rfl, hd, hs, hn, hdep, hsz, q⟩ := h
  obtain ⟨u, rfl, ru⟩
        := vals1 r
  have un := hr.un
  have seq : ∀ a, v = .ref a → wpAny (model X.prog X.w) X.A (call (.builtin "repr") [u]) (EP X pins σ Q) X.xe s := fun a e => by
    subst e
    obtain rfl : u = Value.ref
          a := ru
    obtain ⟨as, rr⟩ := hd.reads I _ rfl
    refine repr_of_reads' rr hs (fun z => by rw [hn] at z; cases z) quiet (by omega) (fun _ _ e => e) (fun h' u tk hk => ?_) hsz
    exact ⟨.str d.shown, H, I.kept hk, ⟨_, rfl⟩, q⟩
  cases hd with
  | non => cases ru; exact P.repr_of_none ⟨.str _, H, I.tok _, ⟨_, rfl⟩, q⟩
  | bl b => cases ru; exact P.repr_of_bool ⟨.str _, H, I.tok _, ⟨_, rfl⟩, q⟩
  | int i =>
    obtain ⟨t, rfl⟩ := ru
    exact P.repr_of_int (of_decide_eq_true (by simpa [PyData.showable] using hs)) ⟨.str _, H, I.tok _, ⟨_, rfl⟩, q⟩
  | str x =>
    obtain ⟨t, rfl⟩ := ru
    exact P.repr_of_str ⟨.str _, H, I.tok _, ⟨_, rfl⟩, q⟩ hsz
  | lst h l a => exact seq _ rfl
  | tup h l a => exact seq _ rfl
  | dct h ne => exact seq _ rfl
def rSetN (w : World) (K : PySem.W.Frag) : List V → Hp → VK → Prop := fun xs H Q => ∃ (l : Addr) (ns : List Int), xs = [.ref l] ∧ SqL K H l (ns.map V.int) ∧ ns.length ≤ 60 ∧
    ∀ p n, H p = none → n ≤ ns.length → Q (.ref p) (upd H p (SetO w p (fun j => decide (j ∈ ns)) n))
theorem cr_setN (hc : X.calm = true) : CallR X (.type "set") (rSetN X.w X.K) := cr_setL hc
end
/-- what plain data shows as -/
def gRepr : GC
  | [d], k => ∃ p, toPy d = some p ∧ p.showable = true ∧ p.hasDict = false ∧ p.depth ≤ 60 ∧ p.shown.length ≤ sizeLine ∧ k (.str p.shown)
  | _, _ => False
def gSortSet : GC
  | [.lst l], k => ∃ ns, intsOf l = some ns ∧ ns.length ≤ 60 ∧ ∀ ns' : List Int, ns'.Pairwise (· < ·) → (∀ z, z ∈ ns' ↔ z ∈ ns) → ns'.length ≤ ns.length → k (.lst (ns'.map Dt.int))
  | _, _ => False
/-- str of a thing of one's own -/
structure StrOk (S : Su) (kd : Nat) (C : Addr) (sp : Sp) (g : Dt → Str) : Prop where
  get : ∀ (d : Dt) (H : Hp) (v : V), S.ob kd d H v → ∃ a dx fs, v = .ref a ∧ H a = some (.ins C dx fs) ∧ ∀ Q : VK, (∀ H', Same H H' → Q (.str (g d)) H') → sp [.ref a] H Q E0
def gStrO (kd : Nat) (g : Dt → Str) : GC
  | [.obj j d], k => j = kd ∧ k (.str (g d))
  | _, _ => False
/-- isinstance(x, C), C a class of one's own, x one of its things -/
structure InsOk (S : Su) (kd : Nat) (n : Str) (C : Addr) : Prop where
  nm : S.mg n = some (.ref C)
  get : ∀ (d : Dt) (H : Hp) (v : V), S.ob kd d H v → ∃ a, v = .ref a ∧ TyX S.K H v (.ref C)
def gIsC (kd : Nat) (n : Str) : GC
  | [.obj j _, .fn x], k => j = kd ∧ x = n ∧ k (.bl true)
  | _, _ => False
section
variable {S : Su}
theorem pRepr : CallP S (rReprV S.K) gRepr := by
  intro M L A H xs ds k Q hd m dis hx g a
  unfold gRepr at g
  split at g
  · obtain ⟨v, rfl, hv⟩ := hx.one
    obtain ⟨p, e, h1, h2, h3, h4, hk⟩ := g
    exact ⟨v, p, rfl, hv.toD e, h1, h2, h3, h4, a _ _ _ .refl m (.str _) hk⟩
  · exact g.elim
theorem pStrO {kd : Nat} {C : Addr} {sp : Sp} {f : Dt → Str} (O : StrOk S kd C sp f) : CallP S (rStrO C sp) (gStrO kd f) := by
  intro M L A H xs ds k Q hd m dis hx g a
  unfold gStrO at g
  split at g
  · obtain ⟨v, rfl, hv⟩ := hx.one
    obtain ⟨rfl, hk⟩ := g
    cases hv.strong (fun l z => by cases z) with
    | obj ho =>
      obtain ⟨p, dx, fs, rfl, e1, q⟩ := O.get _ H _ (S.obm hv_le ho)
      exact ⟨p, dx, fs, rfl, e1, q _ fun H' s => ⟨_, rfl, a _ _ _ (.of s) (m.same s) (.str _) hk⟩⟩
  · exact g.elim
theorem pIsC {kd : Nat} {n : Str} {C : Addr} (O : InsOk S kd n C) : CallP S (rIsi S.K) (gIsC kd n) := by
  intro M L A H xs ds k Q hd m dis hx g a
  unfold gIsC at g
  split at g
  · obtain ⟨v, u, rfl, hv, hu⟩ := hx.two
    obtain ⟨rfl, rfl, hk⟩ := g
    have kt : PySem.W.kitOne S.K (.ref C) (.ref C) = some true := by
      unfold PySem.W.kitOne
      rw [if_pos (by simp)]
    cases hu.strong (fun l z => by cases z) with
    | fn e r =>
      cases O.nm.symm.trans e
      have r : u = V.ref C := by cases u <;> first | (cases r; rfl) | (obtain ⟨_, z⟩ := r; exact nomatch z) | exact nomatch r
      subst r
      cases hv.strong (fun l z => by cases z) with
      | obj ho =>
        obtain ⟨p, rfl, ty⟩ := O.get _ H _ (S.obm hv_le ho)
        exact ⟨_, _, _, _, _, rfl, .own C, ty, kt, a _ _ _ .refl m (.bl _) hk⟩
  · exact g.elim
end
section
variable {X : Cx} {S : Su} {E : XK} {x : Expr} {ws : WA}
theorem xSortSet {w : World} (h : PE X x (tCB (rSortedSet w) (tCons (tCB (rSetN w S.K) (tPAW S E ws)) tNil))) : PE X x (tPF S E (wCal gSortSet ws)) := peTo h fun σ H Q ⟨M, A, L, δ, k, e, f, hw, a, ax⟩ =>
  ⟨M, A, L, δ, _, e, f, hw, fun vs ds H1 s1 m1 hv g => by
    replace g : gSortSet ds k := g
    unfold gSortSet at g
    split at g
    · obtain ⟨v, rfl, hx⟩ := hv.one
      obtain ⟨ns, e, hn, hk⟩ := g
      obtain ⟨p, rfl, e1⟩ := ints_at hx e
      refine ⟨p, ns, rfl, .inl (.inl e1), hn, fun q n nq hle => ?_⟩
      refine ⟨q, _, n, rfl, upd_same, by omega, fun ns' r pw hm hl nr => ?_⟩
      have sm : Same H1 (upd H1 q (SetO w q (fun j => decide (j ∈ ns)) n)) := same_new nq
      have m2 := m1.same sm
      have s2 : Stp M [] H1 [] (upd H1 q (SetO w q (fun j => decide (j ∈ ns)) n)) := .of sm
      have nr1 : H1 r = none := stp_free s2 m2 nr
      exact a r _ (ns'.map Dt.int) _ (stp_free s1 m1 nr1) (s1.trans m1 (s2.trans m2 (.of (same_new nr)))) (m2.same (same_new nr)) upd_same (.ints _) (hk ns' pw (fun z => (hm z).trans (by simp)) (by omega))
    · exact g.elim, ax⟩
end
end LW

set_option Elab.async false
set_option linter.all false
set_option maxRecDepth 100000
set_option maxHeartbeats 4000100
/-! itertools.combinations(xs, r): its texts' facts, how it begins, what it hands out -/
namespace LW
open PySem PySem.Spec
open Sem (wp)
/-- the choices of r of these things, in order -/
def combL {α : Type} : List α → Nat → List (List α)
  | _, 0 => [[]]
  | [], _ + 1 => []
  | a :: l, r + 1 => (combL l r).map (a :: ·) ++ combL l (r + 1)
def cbs (n r : Nat) : List (List Nat) := combL (List.range n) r
/-- the choice after this one -/
def nxt (n : Nat) (ix : List Nat) : Option (List Nat) :=
  match (List.range ix.length).reverse.find? (fun k => ix.getD k 0 != k + n - ix.length) with
  | none => none
  | some k => some (ix.take k ++ (List.range (ix.length - k)).map (ix.getD k 0 + 1 + ·))
theorem cbs_step : ∀ n ∈ List.range 7, ∀ r ∈ List.range (n + 1), ∀ i ∈ List.range (cbs n r).length, nxt n ((cbs n r).getD i []) = (cbs n r)[i + 1]? := by decide +kernel
theorem cbs_head : ∀ n ∈ List.range 7, ∀ r ∈ List.range (n + 1), (cbs n r)[0]? = some (List.range r) := by decide +kernel
theorem cbs_in : ∀ n ∈ List.range 7, ∀ r ∈ List.range (n + 1), ∀ ix ∈ cbs n r, ∀ i ∈ ix, i < n := by decide +kernel
theorem cbs_len : ∀ n ∈ List.range 7, ∀ r ∈ List.range (n + 1), ∀ ix ∈ cbs n r, ix.length ≤ 6 := by decide +kernel
theorem comb_mro : mroOf (.type "itertools.combinations") = pure [.type "itertools.combinations", .type "object"] := by rw [mroOf_type]; kernel_rfl
theorem comb_new : typeLookup (.type "itertools.combinations") "__new__" = pure (some (.builtin "itertools.combinations.__new__")) := by rw [typeLookup_type, builtinLookup_eq_fast]; kernel_rfl
theorem comb_init : Slot "itertools.combinations" "__init__" "object.__init__" :=
  .of (owner := "object") (n := "__init__") (by rw [typeLookup_type, builtinLookup_eq_fast]; kernel_rfl) (by
        decide +kernel) (by decide +kernel) (by decide +kernel)
    (by first | exact .inl (by decide +kernel) | exact .inr (by decide +kernel))
          (by rw [isSubtype_type]; kernel_rfl)
theorem comb_sub : isSubtype (.type "itertools.combinations") (.type "itertools.combinations") = pure true := by rw [isSubtype_type]; kernel_rfl
theorem comb_called : TypeCalled "itertools.combinations" "itertools.combinations.__new__" "object.__init__" :=
  ⟨by decide +kernel, by decide +kernel, ⟨_, _, comb_mro⟩, madeBy_type comb_mro comb_new (by decide +kernel), by decide +kernel, comb_sub, comb_init⟩
theorem comb_typeCall (a b : Value) : checkTypeCall "itertools.combinations" ⟨[a, b], []⟩ = pure () := by kernel_rfl
theorem comb_newCall (a b : Value) : checkBuiltinCall "itertools.combinations.__new__" ⟨[.type "itertools.combinations", a, b], []⟩ = pure () := by kernel_rfl
theorem comb_entry_new : entryFor table "itertools.combinations.__new__" = some Builtin.«itertools.combinations.__new__» := entryFor_of_tree (by kernel_rfl)
theorem comb_slot_iter : Slot "itertools.combinations" "__iter__" "itertools.combinations.__iter__" :=
  .of (owner := "itertools.combinations") (n := "__iter__") (by rw [typeLookup_type, builtinLookup_eq_fast]; kernel_rfl) (by decide +kernel) (by decide +kernel) (by decide +kernel)
    (by first | exact .inl (by decide +kernel) | exact .inr (by decide +kernel)) comb_sub
theorem comb_slot_next : Slot "itertools.combinations" "__next__" "itertools.combinations.__next__" :=
  .of (owner := "itertools.combinations") (n := "__next__") (by rw [typeLookup_type, builtinLookup_eq_fast]; kernel_rfl) (by decide +kernel) (by decide +kernel) (by decide +kernel)
    (by first | exact .inl (by decide +kernel) | exact .inr (by decide +kernel)) comb_sub
theorem comb_entry_iter : entryFor table "itertools.combinations.__iter__" = some Builtin.«dict_keyiterator.__iter__» :=
  entryFor_alias (id' := "dict_keyiterator.__iter__") (by kernel_rfl)
    (by first | decide +kernel | rfl) (by decide +kernel) (by kernel_rfl)
theorem comb_entry_next : entryFor table "itertools.combinations.__next__" = some Builtin.«itertools.combinations.__next__» := entryFor_of_tree (by kernel_rfl)
theorem comb_owner : Manifest.owners.lookup (String.ofList ['s', 'n', 'o', 'i', 't', 'a', 'n', 'i', 'b', 'm', 'o', 'c', '.', 's', 'l', 'o', 'o', 't', 'r', 'e', 't', 'i'].reverse) = some Manifest.sig_itertools_combinations := by kernel_rfl
theorem comb_args_iter (a : Value) : argsOk "itertools.combinations.__iter__" ⟨[a], []⟩ := by
  unfold argsOk; rw [signature?_of (id := "itertools.combinations.__iter__") (n := ['_', '_', 'r', 'e', 't', 'i', '_', '_']) (o := ['s', 'n', 'o', 'i', 't', 'a', 'n', 'i', 'b', 'm', 'o', 'c', '.', 's', 'l', 'o', 'o', 't', 'r', 'e', 't', 'i']) (by kernel_rfl) comb_owner]; kernel_rfl
theorem comb_args_next (a : Value) : argsOk "itertools.combinations.__next__" ⟨[a], []⟩ := by
  unfold argsOk; rw [signature?_of (id := "itertools.combinations.__next__") (n := ['_', '_', 't', 'x', 'e', 'n', '_', '_']) (o := ['s', 'n', 'o', 'i', 't', 'a', 'n', 'i', 'b', 'm', 'o', 'c', '.', 's', 'l', 'o', 'o', 't', 'r', 'e', 't', 'i']) (by kernel_rfl) comb_owner]; kernel_rfl
theorem comb_noDict : typeHasDict (.type "itertools.combinations") = false := by decide +kernel
open Builtin.Itertools
/-- a combinations object: its pool, how far it is, what it handed out last, the places that it is at -/
abbrev CmO (pool : Addr) (st : Int) (last : Value) (ix : List Nat) : Obj := { cls := .type "itertools.combinations", data := .fields (Value.ref pool :: .int st 0 :: last :: ix.map fun (i : Nat) => rawInt i).toArray }
section
variable {prog : Program} {w : World} {A : Around} {E : Value
      → Shared → Prop} {s : Shared}
theorem nums_back (a b c : Value) (ix : List Nat) (f : Value → Nat) (hf : ∀ n : Nat, f (rawInt n) = n) : ((a :: b :: c :: ix.map fun (i : Nat) => rawInt i).toArray.toList.drop 3).map f = ix := by
  have : (a :: b :: c :: ix.map fun (i : Nat) => rawInt i).toArray.toList.drop 3 = ix.map fun (i : Nat) => rawInt i := by simp
  rw [this, List.map_map]
  conv => rhs; rw [← List.map_id ix]
  exact List.map_congr_left fun n _ => hf n
theorem cm_st (pool : Addr) (st st2 : Int) (last : Value) (ix : List Nat) : Obj.mapFields (fun x => x.setIfInBounds 1 (rawInt st2)) (CmO pool st last ix) = CmO pool st2 last ix := by
  unfold Obj.mapFields
  simp [CmO, rawInt]
theorem cm_last (pool : Addr) (st : Int) (last x : Value) (ix : List Nat) : Obj.mapFields (fun y => y.setIfInBounds 2 x) (CmO pool st last ix) = CmO pool st x ix := by
  unfold Obj.mapFields
  simp [CmO]
theorem cm_ix (pool : Addr) (st : Int) (last : Value) (ix ix2 : List Nat) : Obj.mapFields (fun fs => fs.extract 0 3 ++ (ix2.map fun (n : Nat) => rawInt n).toArray) (CmO pool st last ix) = CmO pool st last ix2 := by
  unfold Obj.mapFields
  simp [CmO]
/-- what is chosen is handed out as a new tuple -/
theorem hand_out {it pool : Addr} {po : Obj} {st : Int} {last : Value} {ix0 ix : List Nat} {its : Array Value} {nn : Nat} {Q : Fin → Shared → Prop} (hit : s.heap.get? it = some (CmO pool st last ix0)) (hp : s.heap.get? pool = some po) (hd : po.data = .seq its nn) (hx : ix.length ≤ 6)
    (hQ : ∀ h', h'.get? it = some (CmO pool st (.ref s.heap.objs.size) ix0) → h'.get? s.heap.objs.size = some { cls := .type "tuple", data := .seq (ix.map fun i => its.getD i .none).toArray } → (∀ b o, b ≠ it → s.heap.get? b = some o → h'.get? b = some o) → Q (.done (.ret (.ref s.heap.objs.size))) { s with heap := h' }) :
    wpAny (model prog w) A ((itPoolItems (.ref pool) >>= fun xs => newTuple (ix.map fun i => xs.getD i .none)) >>= fun r => field (.ref it) 2 >>= fun old => setField (.ref it) 2 r >>= fun _ => letGo [old] [r] >>= fun _ => ret r) Q E s := by
  refine wpAny_bind
        (wpAny_bind ?_)
  show wpAny _ _ (seqItems? (.ref pool) >>= _) _ _ s
  refine wpAny_bind (wpAny_seqItems hp hd (wpAny_pure ?_))
  refine wpAny_newTuple ?_ ?_
  · have hit1 := Heap.get?_push_of_some { cls := .type "tuple", data := .seq (ix.map fun i => its.getD i .none).toArray } hit
    have ne : s.heap.objs.size ≠ it := Nat.ne_of_gt (Heap.lt_size hit)
    refine wpAny_bind (wpAny_field hit1 rfl (x := last) (by simp) ?_)
    refine wpAny_bind (wpAny_setField hit1 rfl (by simp) ?_)
    refine wpAny_bind
          (wpAny_letGo ?_)
    refine wpAny_pure (hQ _ ?_ ?_ ?_)
    · rw [← cm_last pool st last (.ref s.heap.objs.size) ix0]
      exact Heap.get?_update_self _ hit1 rfl
    · exact (Heap.get?_update_other _ _ ne.symm).trans (Heap.get?_push_size _ rfl)
    · intro b o hb e
      exact (Heap.get?_update_other _ _ hb.symm).trans (Heap.get?_push_of_some _ e)
  · rw [List.length_map, sizeLine_eq]
    omega
theorem comb_first {it pool : Addr} {po : Obj} {last : Value} {ix : List Nat} {its : Array Value} {nn : Nat} {Q : Option Value → Shared → Prop} (hit : s.heap.get? it = some (CmO pool 0 last ix)) (hp : s.heap.get? pool = some po) (hd : po.data = .seq its nn) (np : pool ≠ it) (hx : ix.length ≤ 6)
    (hQ : ∀ h', h'.get? it = some (CmO pool 1 (.ref s.heap.objs.size) ix) → h'.get? s.heap.objs.size = some { cls := .type "tuple", data := .seq (ix.map fun i => its.getD i .none).toArray } → (∀ b o, b ≠ it → s.heap.get? b = some o → h'.get? b = some o) → Q (some (.ref s.heap.objs.size)) { s with heap := h' }) :
    wpAny (model prog w) A (pyNext (.ref
          it)) Q E s := by
  have hT : s.TypeIs (.ref it) "itertools.combinations" := ⟨_, hit, rfl⟩
  unfold pyNext
  refine wpAny_bind (wpAny_attempt (wpAny_callSpecial?_slot (name := Str.ofString "__next__") hT comb_slot_next (wpAny_call_entry comb_slot_next hT comb_entry_next ?_ (comb_args_next _))))
  show wpAny _ _ (field (.ref it)
        0 >>= _) _ _ s
  refine wpAny_bind (wpAny_field hit rfl (x := .ref pool) (by simp) ?_)
  show wpAny _ _ (itNumbersFrom (.ref it) 3 >>= _) _ _ s
  refine wpAny_bind ?_
  show wpAny _ _ (load it >>= _) _ _ s
  refine wpAny_bind (wpAny_load hit ?_)
  refine wpAny_pure ?_
  rw [nums_back _ _ _ ix _ (fun n => rfl)]
  show wpAny _ _ (itIntField (.ref it) 1 >>= _) _ _ s
  refine wpAny_bind ?_
  show wpAny _ _ (field (.ref it)
        1 >>= _) _ _ s
  refine wpAny_bind (wpAny_field hit rfl (x := .int 0 0) (by simp) (wpAny_pure ?_))
  show wpAny _ _ (setField (.ref it) 1 (rawInt 1) >>= _) _ _ s
  refine wpAny_bind (wpAny_setField hit
        rfl (by simp) ?_)
  have hit1 : (s.heap.update it (Obj.mapFields fun x => x.setIfInBounds 1 (rawInt 1))).get? it = some (CmO pool 1 last ix) := by
    rw [← cm_st pool 0 1 last ix]
    exact Heap.get?_update_self _ hit rfl
  have sz : (s.heap.update it (Obj.mapFields fun x => x.setIfInBounds 1 (rawInt 1))).objs.size = s.heap.objs.size := Heap.size_update ..
  refine hand_out (ix := ix) (its := its) hit1 ((Heap.get?_update_other _ _ np.symm).trans hp) hd hx ?_
  rw [sz]
  intro h' h1 h2 h3
  exact ⟨_, rfl, wpAny_pure (hQ h' h1 h2 fun b o hb e => h3 b o hb ((Heap.get?_update_other _ _ hb.symm).trans e))⟩
theorem comb_more {it pool : Addr} {po : Obj} {last : Value} {ix ix2 : List Nat} {its : Array Value} {nn : Nat} {Q : Option Value → Shared → Prop} (hit : s.heap.get? it = some (CmO pool 1 last ix)) (hp : s.heap.get? pool = some po) (hd : po.data = .seq its nn) (np : pool ≠ it) (hn : nxt its.size ix = some ix2) (hx : ix2.length ≤ 6)
    (hQ : ∀ h', h'.get? it = some (CmO pool 1 (.ref s.heap.objs.size) ix2) → h'.get? s.heap.objs.size = some { cls := .type "tuple", data := .seq (ix2.map fun i => its.getD i .none).toArray } → (∀ b o, b ≠ it → s.heap.get? b = some o → h'.get? b = some o) → Q (some (.ref s.heap.objs.size)) { s with heap := h' }) :
    wpAny (model prog w) A (pyNext (.ref
          it)) Q E s := by
  have hT : s.TypeIs (.ref it) "itertools.combinations" := ⟨_, hit, rfl⟩
  unfold pyNext
  refine wpAny_bind (wpAny_attempt (wpAny_callSpecial?_slot (name := Str.ofString "__next__") hT comb_slot_next (wpAny_call_entry comb_slot_next hT comb_entry_next ?_ (comb_args_next _))))
  show wpAny _ _ (field (.ref it)
        0 >>= _) _ _ s
  refine wpAny_bind (wpAny_field hit rfl (x := .ref pool) (by simp) ?_)
  show wpAny _ _ (itNumbersFrom (.ref it) 3 >>= _) _ _ s
  refine wpAny_bind ?_
  show wpAny _ _ (load it >>= _) _ _ s
  refine wpAny_bind (wpAny_load hit ?_)
  refine wpAny_pure ?_
  rw [nums_back _ _ _ ix _ (fun n => rfl)]
  show wpAny _ _ (itIntField (.ref it) 1 >>= _) _ _ s
  refine wpAny_bind ?_
  show wpAny _ _ (field (.ref it)
        1 >>= _) _ _ s
  refine wpAny_bind (wpAny_field hit rfl (x := .int 1 0) (by simp) (wpAny_pure ?_))
  show wpAny _ _ (itPoolItems (.ref pool) >>= _) _ _ s
  refine wpAny_bind ?_
  show wpAny _ _ (seqItems? (.ref pool) >>= _) _ _ s
  refine wpAny_bind (wpAny_seqItems hp hd (wpAny_pure ?_))
  split
  · rename_i nx heq
    have e2 : nx = ix2 := Option.some.inj (heq.symm.trans hn)
    subst e2
    refine wpAny_bind ?_
    refine wpAny_updateFields hit rfl ?_ (by rw [sizeLine_eq]; simp; omega)
    have hit1 : (s.heap.update it (Obj.mapFields fun fs => fs.extract 0 3 ++ (nx.map fun (n : Nat) => rawInt n).toArray)).get? it = some (CmO pool 1 last nx) := by
      rw [← cm_ix pool 1 last ix nx]
      exact Heap.get?_update_self _ hit rfl
    have sz : (s.heap.update it (Obj.mapFields fun fs => fs.extract 0 3 ++ (nx.map fun (n : Nat) => rawInt n).toArray)).objs.size = s.heap.objs.size := Heap.size_update ..
    refine hand_out (ix := nx) (its := its) hit1 ((Heap.get?_update_other _ _ np.symm).trans hp) hd hx ?_
    rw [sz]
    intro h' h1 h2 h3
    exact ⟨_, rfl, wpAny_pure (hQ h' h1 h2 fun b o hb e => h3 b o hb ((Heap.get?_update_other _ _ hb.symm).trans e))⟩
  · rename_i heq
    exact absurd (heq.symm.trans hn) (by simp)
theorem comb_end {it pool : Addr} {po : Obj} {last : Value} {ix : List Nat} {its : Array Value} {nn : Nat} {Q : Option Value → Shared → Prop} (hh : A.handled = none) (hit : s.heap.get? it = some (CmO pool 1 last ix)) (hp : s.heap.get? pool = some po) (hd : po.data = .seq its nn) (hn : nxt its.size ix = none)
    (hQ : ∀ h', Heap.ExtBut it s.heap h' → Q none
          { s with heap := h' }) :
    wpAny (model prog w) A (pyNext (.ref
          it)) Q E s := by
  have hT : s.TypeIs (.ref it) "itertools.combinations" := ⟨_, hit, rfl⟩
  unfold pyNext
  refine wpAny_bind (wpAny_attempt (wpAny_callSpecial?_slot (name := Str.ofString "__next__") hT comb_slot_next (wpAny_call_entry comb_slot_next hT comb_entry_next ?_ (comb_args_next _))))
  show wpAny _ _ (field (.ref it)
        0 >>= _) _ _ s
  refine wpAny_bind (wpAny_field hit rfl (x := .ref pool) (by simp) ?_)
  show wpAny _ _ (itNumbersFrom (.ref it) 3 >>= _) _ _ s
  refine wpAny_bind ?_
  show wpAny _ _ (load it >>= _) _ _ s
  refine wpAny_bind (wpAny_load hit ?_)
  refine wpAny_pure ?_
  rw [nums_back _ _ _ ix _ (fun n => rfl)]
  show wpAny _ _ (itIntField (.ref it) 1 >>= _) _ _ s
  refine wpAny_bind ?_
  show wpAny _ _ (field (.ref it)
        1 >>= _) _ _ s
  refine wpAny_bind (wpAny_field hit rfl (x := .int 1 0) (by simp) (wpAny_pure ?_))
  show wpAny _ _ (itPoolItems (.ref pool) >>= _) _ _ s
  refine wpAny_bind ?_
  show wpAny _ _ (seqItems? (.ref pool) >>= _) _ _ s
  refine wpAny_bind (wpAny_seqItems hp hd (wpAny_pure ?_))
  split
  · rename_i nx heq
    exact absurd (heq.symm.trans hn) (by simp)
  · rename_i heq
    refine wpAny_bind (wpAny_setField hit
          rfl (by simp) ?_)
    show wpAny _ _ (newExc (.type "StopIteration")
          [] >>= _) _ _ _
    refine wpAny_bind ?_
    simp only [newExc, newTuple]
    refine wpAny_bind (wpAny_newObj_type
          ?_ (by size_fits))
    refine wpAny_bind (m := firstArgMember _ _) (wpAny_of_eq (a := Value.none) (by first
          | rfl | (simp only [firstArgMember]; rfl)) ?_)
    refine wpAny_newObj_type ?_
          (by size_fits)
    simp only [raiseNew]
    refine wpAny_bind
          (wpAny_handled ?_)
    first | rw [show A.in1.handled = none
          from hh] | rw [hh]
    refine wpAny_bind (wpAny_pure
          (wpAny_throw ?_))
    refine wpAny_bind (wpAny_isInstance (T := "StopIteration") (b := true) ⟨_,
          Heap.get?_push_size _ rfl, rfl⟩ isSubtype_stop ?_)
    exact wpAny_pure (hQ _ ((((Heap.SameBut.update ..).extBut).push _).push _))
theorem comb_rest (a b : Value) {Q : Value × List Value → Shared → Prop} (h : Q (.type "itertools.combinations", [a, b]) s) : wpAny (model prog w) A (itClassAndRest "combinations" ⟨[.type "itertools.combinations", a, b], []⟩) Q E s := by
  have hsub := comb_sub
  unfold itClassAndRest
  repeat any_goals (first | assumption | wp_step)
  rw [show ("itertools." ++ "combinations" : String) = "itertools.combinations" from by decide, hsub]
  exact wpAny_pure
        (wpAny_pure h)
theorem comb_named (a b : Value) {Q : List (Option Value) → Shared → Prop} (h : Q [some a, some b] s) : wpAny (model prog w) A (itBindNamed "combinations" ["iterable", "r"] 2 2 [a, b] []) Q E s := by
  have e : itBindNamed "combinations" ["iterable", "r"] 2 2 [a, b] [] = pure [some a, some b] := by first | rfl | kernel_rfl
  rw [e]
  exact wpAny_pure h
theorem comb_ssize (r : Nat) (t : Tok) {Q : Int → Shared → Prop} (hr : r ≤ 6) (h : Q (r : Int) s) : wpAny (model prog w) A (itSsizeArg (.int (r : Int) t)) Q E s := by
  show wpAny _ _ (asIndex (.int (r : Int) t) >>= _) _ _ s
  refine wpAny_bind ?_
  show wpAny _ _ (pure (r : Int)) _ _ s
  refine wpAny_pure ?_
  have hn : (decide ((r : Int) < -(2 ^ 63 : Int)) || decide ((r : Int) ≥ 2 ^ 63)) = false := by
    rw [decide_eq_false (by omega), decide_eq_false (by omega)]
    rfl
  show wpAny _ _ (if (decide ((r : Int) < -(2 ^ 63 : Int)) || decide ((r : Int) ≥ 2 ^ 63)) = true then _ else _) _ _ s
  rw [hn]
  exact wpAny_pure h
/-- the object that a call makes -/
theorem meets_comb_new (l : Addr) (its : Array Value) (r : Nat) (t : Tok) (h6 : its.size ≤ 6) (hr : r ≤ its.size) :
    Meets (Builtin.«itertools.combinations.__new__» ⟨[.type "itertools.combinations", .ref l, .int (r : Int) t], []⟩)
      (fun _ R s => s.heap.IsList l its ∧ ∀ h' : Heap, (∀ b o', s.heap.get? b = some o' → h'.get? b = some o') → R (.ok (.ret (.ref (h'.objs.size + 1)))) { s with heap := (h'.push { cls := .type "tuple", data := .seq its }).push (CmO h'.objs.size 0 .none (List.range r)) }) :=
  .of_wp fun prog w A
        R s h => by
    obtain ⟨⟨ol, hol, hc, nl, hdl⟩, h⟩ := h
    have hd := comb_noDict
    show wpAny _ A.in1 ((itClassAndRest "combinations" _ >>= _) >>= _) _ _ s
    refine wpAny_bind (wpAny_bind (comb_rest _ _ ?_))
    show wpAny _ A.in1 (itBindNamed "combinations" ["iterable", "r"] 2 2 [.ref l, .int (r : Int) t] [] >>= _) _ _ s
    refine wpAny_bind (comb_named _ _ ?_)
    show wpAny _ A.in1 (itSsizeArg (.int (r : Int) t) >>= _) _ _ s
    refine wpAny_bind (comb_ssize r t (by omega) ?_)
    refine wpAny_bind (wpAny_collect_seq l (.inl rfl) hol hc hdl (fun h' hk => ?_) (by rw [sizeLine_eq]; omega))
    show wpAny _ _ (if (r : Int) < 0 then _ else _) _ _ _
    rw [if_neg (by omega)]
    show wpAny _ _ (if itTooMany (r : Int) = true then _ else _) _ _ _
    rw [if_neg (by unfold itTooMany; rw [decide_eq_true_eq]; omega)]
    show wpAny _ _ (newTuple its.toList >>= _) _ _ _
    refine wpAny_bind (wpAny_newTuple ?_ (by rw [Array.length_toList, sizeLine_eq]; omega))
    refine wpAny_pure ?_
    show wpAny _ _ (itNewRecord (.type "itertools.combinations") _ >>= _) _ _ _
    refine wpAny_bind ?_
    unfold itNewRecord
    rw [hd]
    rw [if_pos (show (!false) = true from rfl), show (if ((r : Int).toNat > its.toList.length) then (2 : Int) else 0) = 0 from if_neg (by rw [Array.length_toList]; omega)]
    refine wpAny_newObj_type ?_ (by simp [sizeOk]; rw [sizeLine_eq]; omega)
    refine wpAny_pure ⟨_,
          rfl, ?_⟩
    have e := h h' hk
    have sz : (h'.push { cls := .type "tuple", data := .seq its }).objs.size = h'.objs.size + 1 := Heap.size_push ..
    show R (.ok (.ret (.ref (h'.push { cls := .type "tuple", data := .seq its }).objs.size))) _
    rw [sz]
    exact e
end
section
variable {prog : Program} {w : World} {A : Around} {E : Value
      → Shared → Prop} {s : Shared}
theorem call_comb {l : Addr} {its : Array Value} {r : Nat} {t : Tok} {Q : Value → Shared → Prop} (hl : s.heap.IsList l its) (h6 : its.size ≤ 6) (hr : r ≤ its.size)
    (h : ∀ h1 h' : Heap, (∀ b o, s.heap.get? b = some o → h1.get? b = some o) → (∀ b o, h1.get? b = some o → h'.get? b = some o) → h'.get? h1.objs.size = some { cls := .type "tuple", data := .seq its } → h'.get? (h1.objs.size + 1) = some (CmO h1.objs.size 0 .none (List.range r)) → Q (.ref (h1.objs.size + 1)) { s with heap := h' }) :
    wpAny (model prog w) A (call (.type "itertools.combinations") [.ref l, .int (r : Int) t]) Q E s := by
  refine callType_new comb_called (by decide +kernel) (comb_typeCall _ _) (comb_newCall _ _) (fun obj => F.args_object_init_3 obj _ _) comb_entry_new (meets_comb_new l its r t h6 hr) ?_
  refine ⟨hl, fun h1 hk => ?_⟩
  have sz : (h1.push { cls := .type "tuple", data := .seq its }).objs.size = h1.objs.size + 1 := Heap.size_push ..
  have e1 : ((h1.push { cls := .type "tuple", data := .seq its }).push (CmO h1.objs.size 0 .none (List.range r))).get? (h1.objs.size + 1) = some (CmO h1.objs.size 0 .none (List.range r)) := by
    rw [← sz]
    exact Heap.get?_push_size
          _ rfl
  show _ ∧ _
  exact ⟨⟨_, e1, rfl⟩, h h1 _ hk (fun b o e => Heap.get?_push_of_some _ (Heap.get?_push_of_some _ e)) (Heap.get?_push_of_some _ (Heap.get?_push_size _ rfl)) e1⟩
theorem iter_comb {it pool : Addr} {st : Int} {last : Value} {ix : List Nat} {Q : Value → Shared → Prop} (hit : s.heap.get? it = some (CmO pool st last ix)) (h : Q (.ref it) s) : wpAny (model prog w) A (pyIter (.ref it)) Q E s := by
  have hT : s.TypeIs (.ref it) "itertools.combinations" := ⟨_, hit, rfl⟩
  refine wpAny_pyIter_slot hT comb_slot_iter (wpAny_call_entry comb_slot_iter hT comb_entry_iter ?_ (comb_args_iter _))
  show wpAny _ _ (ret (.ref
        it)) _ _ s
  exact wpAny_pure ⟨_, rfl, "itertools.combinations", _, hT, comb_slot_next.lookup, h⟩
end
open L2 PyProof.Rows
theorem nxt_at {n r i : Nat} {ix : List Nat} (hn : n < 7) (hr : r ≤ n) (e : (cbs n r)[i]? = some ix) : nxt n ix = (cbs n r)[i + 1]? := by
  have lt := (List.getElem?_eq_some_iff.mp e).1
  have := cbs_step n (List.mem_range.mpr hn) r (List.mem_range.mpr (by omega)) i (List.mem_range.mpr lt)
  rw [List.getD_eq_getElem?_getD, e] at this
  exact this
/-- the choices of r of these values, one at each turn, each in a new tuple -/
def Itcb (xs : List V) (r : Nat) : It :=
  ⟨fun i _ => i < (cbs xs.length r).length,
   fun i H v H' => ∃ T ix, v = .ref T ∧ H T = none ∧ (cbs xs.length r)[i]? = some ix ∧ H' = upd H T (.tup (ix.map fun j => xs.getD j .non)),
   fun i _ => (cbs xs.length r).length = i⟩
/-- the places that the object is at, ahead of the turn i -/
def cbAt (n r i : Nat) : List Nat := (cbs n r).getD (i - 1) []
theorem turn_comb {P : Program} {w : World} {K : PySem.W.Frag} {tg : Expr} {pool it : Addr} {xs : List V} {its : List Value} {r : Nat} (rv : Vals xs its) (h6 : xs.length < 7) (hr : r ≤ xs.length) (np : pool ≠ it) :
    Turn P w K tg (Itcb xs r) [it, pool] it (fun i h => (∃ last, h.get? it = some (CmO pool (if i = 0 then 0 else 1) last (cbAt xs.length r i))) ∧ h.get? pool = some { cls := .type "tuple", data := .seq its.toArray }) where
  mem := by simp
  obj := fun i h st c hc => by
    obtain ⟨⟨last, h1⟩, h2⟩ := st
    have e' : c = it ∨ c = pool := by simpa using hc
    rcases e' with q | q
    · rw [q]; exact ⟨_, h1, fun v q => nomatch q⟩
    · rw [q]; exact ⟨_, h2, fun v q => nomatch q⟩
  keep := fun i h h' st k => by
    obtain ⟨⟨last, h1⟩, h2⟩ := st
    exact ⟨⟨last, k it (by simp) _ h1⟩, k pool (by simp) _ h2⟩
  item := by
    intro X hP hw hK hc i pins s σ
          H E I hf st hg
    subst hP hw hK
    obtain ⟨⟨last, h1⟩, h2⟩ := st
    have li : its.length = xs.length := rv.length.symm
    obtain ⟨ix, e⟩ : ∃ ix, (cbs xs.length r)[i]? = some ix := ⟨_, List.getElem?_eq_getElem hg⟩
    have hx : ix.length ≤ 6 := cbs_len _ (List.mem_range.mpr h6) r (List.mem_range.mpr (by omega)) ix (List.mem_of_getElem? e)
    have hin : ∀ j ∈ ix, j < xs.length := cbs_in _ (List.mem_range.mpr h6) r (List.mem_range.mpr (by omega)) ix (List.mem_of_getElem? e)
    have sz : its.toArray.size = xs.length := by rw [List.size_toArray]; exact li
    have rest : ∀ h', h'.get? it = some (CmO pool 1 (.ref s.heap.objs.size) ix) → h'.get? s.heap.objs.size = some { cls := .type "tuple", data := .seq (ix.map fun i => its.toArray.getD i .none).toArray } → (∀ b o, b ≠ it → s.heap.get? b = some o → h'.get? b = some o) →
        ∃ u, (some (Value.ref s.heap.objs.size) = some u) ∧ wpAny (model X.prog X.w) X.A (letOwnedTupleGo tg (.ref it) u) (fun _ s2 => ∃ x H', Inv X pins σ H' s2 ∧ RelV x u ∧ (Itcb xs r).yld i H x H' ∧ ((∃ last, s2.heap.get? it = some (CmO pool (if i + 1 = 0 then 0 else 1) last (cbAt xs.length r (i + 1)))) ∧ s2.heap.get? pool = some { cls := .type "tuple", data := .seq its.toArray }) ∧ ∀ b ∈ [it, pool], H' b = none) E { s with heap := h' } := by
      intro h' g1 g2 g3
      refine ⟨_, rfl, go_of (s := { s with heap := h' }) (n := "itertools.combinations") g1 rfl rfl (by decide) ?_⟩
      have vs : Vals (ix.map fun j => xs.getD j .non) (ix.map fun i => its.toArray.getD i .none) := by
        clear g2 g1 e hx
        induction ix with
        | nil => exact .nil
        | cons j ix ih =>
          have hj := hin j (by simp)
          obtain ⟨u, e1, ru⟩ := rv.get (List.getElem?_eq_getElem hj)
          refine .cons ?_ (ih fun k hk => hin k (List.mem_cons_of_mem _ hk))
          have a1 : xs.getD j .non = xs[j] := by rw [List.getD_eq_getElem?_getD, List.getElem?_eq_getElem hj]; rfl
          have a2 : its.toArray.getD j .none = u := by
            rw [Array.getD_eq_getD_getElem?, List.getElem?_toArray, e1]
            rfl
          show RelV (xs.getD j .non) (its.toArray.getD j .none)
          rw [a1, a2]
          exact ru
      have new : ObjOk X.prog X.w (upd H s.heap.objs.size (.tup (ix.map fun j => xs.getD j .non))) h' s.heap.objs.size (.tup (ix.map fun j => xs.getD j .non)) :=
        ⟨by rw [sizeLine_eq, List.length_map]; omega, _, vs, ⟨_, g2, rfl, _, rfl⟩⟩
      have I1 : Inv X pins σ (upd H s.heap.objs.size (.tup (ix.map fun j => xs.getD j .non))) { s with heap := h' } :=
        I.turnedNew (t' := s.toks) (ch := [it]) (fun c o hb q => g3 c o (by simpa using hb) q) (fun b hb => hf b (by simp at hb; simp [hb])) (Nat.le_refl _) new
      refine ⟨.ref s.heap.objs.size, _, I1, rfl, ⟨_, ix, rfl, I.hok.fresh (Nat.le_refl _), e, rfl⟩, ⟨⟨.ref s.heap.objs.size, ?_⟩, g3 pool _ np h2⟩, fun c hcm => ?_⟩
      · have : cbAt xs.length r (i + 1) = ix := by
          unfold cbAt
          rw [Nat.add_sub_cancel, List.getD_eq_getElem?_getD, e]
          rfl
        rw [this]
        exact g1
      · have hlt : c < s.heap.objs.size
            := by
          have e' : c = it ∨ c = pool := by simpa using hcm
          rcases e' with q | q
          · rw [q]; exact Heap.lt_size h1
          · rw [q]; exact Heap.lt_size h2
        rw [upd_ne (Nat.ne_of_lt
              hlt)]
        exact (hf c hcm).1
    cases i with
    | zero =>
      have : cbAt xs.length r 0 = ix := by
        unfold cbAt
        rw [List.getD_eq_getElem?_getD,
              e]
        rfl
      rw [this] at h1
      exact comb_first h1 h2 rfl np hx rest
    | succ i =>
      obtain ⟨iy, e2⟩ : ∃ iy, (cbs xs.length r)[i]? = some iy := ⟨_, List.getElem?_eq_getElem (Nat.lt_of_succ_lt hg)⟩
      have : cbAt xs.length r (i + 1) = iy := by
        unfold cbAt
        rw [Nat.add_sub_cancel, List.getD_eq_getElem?_getD, e2]
        rfl
      rw [this] at h1
      refine comb_more h1 h2 rfl np ?_ hx rest
      rw [sz, nxt_at h6 hr e2, e]
  done := by
    intro X hP hw hK hc i pins s σ
          H E I hf st hg
    subst hP hw hK
    obtain ⟨⟨last, h1⟩, h2⟩ := st
    have li : its.length = xs.length := rv.length.symm
    have sz : its.toArray.size = xs.length := by rw [List.size_toArray]; exact li
    have hd := cbs_head _ (List.mem_range.mpr h6) r (List.mem_range.mpr (by omega))
    have pos : 0 < (cbs xs.length r).length := (List.getElem?_eq_some_iff.mp hd).1
    have hg' : (cbs xs.length r).length = i := hg
    obtain ⟨j, rfl⟩ : ∃ j, i = j + 1 := ⟨i - 1, by omega⟩
    obtain ⟨iy, e2⟩ : ∃ iy, (cbs xs.length r)[j]? = some iy := ⟨_, List.getElem?_eq_getElem (by omega)⟩
    have : cbAt xs.length r (j + 1) = iy := by
      unfold cbAt
      rw [Nat.add_sub_cancel, List.getD_eq_getElem?_getD, e2]
      rfl
    rw [this] at h1
    refine comb_end (I.ok.hd hc) h1 h2 rfl ?_ fun h' hk => ⟨rfl, I.turnedL (t' := s.toks) (ch := [it]) (fun c o hb q => hk c o (by simpa using hb) q) fun b hb => hf b (by simp at hb; simp [hb])⟩
    rw [sz, nxt_at h6 hr e2]
    exact List.getElem?_eq_none_iff.mpr
          (by omega)
  self := fun A i s Q E
        st h => by
    obtain ⟨⟨last, h1⟩, h2⟩ := st
    exact iter_comb h1 h
/-- combinations(xs, r) -/
def iComb (K : PySem.W.Frag) (ta : TA) : TI := fun σ H R => ta σ H fun vs H1 => ∃ (a : Addr) (xs : List V) (r : Nat), vs = [.ref a, .int (r : Int)] ∧ SqL K H1 a xs ∧ xs.length < 7 ∧ r ≤ xs.length ∧ R (Itcb xs r) H1
theorem pi_comb {X : Cx} {x : Str} {tg e e2 : Expr} {ta : TA} {p pos : Pos} (hg : Gl X x) (hm : X.mg x = some (.type "itertools.combinations")) (ha : PA X [e, e2] ta)
    (hs : starEach [e, e2] X.env = (false, eval e X.env) :: starEach [e2] X.env := by rfl) (hpl : (backTo pos (starEach [e2] X.env)).any (·.1) = false := by rfl) (hdb : (x == ("__debug__" : Str)) = false := by decide) :
    PI X tg (.Call (.Name x p) [e, e2] [] pos) (iComb X.K ta) := by
  refine ⟨fun pins s σ H
        R I h => ?_⟩
  refine Call_ (ld_glob I hg hm (PyProof.Rows.callWith_type1 (thn (ha.run pos pins s σ H _ I h) fun us s1 ⟨vs, H1, I1, r1, q1⟩ => ?_) hs hpl) hdb)
  obtain ⟨a, xs, r, ex, hq, h6, hr, q⟩ := q1
  subst ex
  obtain ⟨u1, u2, rfl, ra, rb⟩ := r1.two
  cases (show u1 = Value.ref a from ra)
  obtain ⟨t, rfl⟩ : ∃ t, u2 = .int (r : Int) t := rb
  obtain ⟨its, rv, p1, _⟩ := I1.list hq
  have li : its.length = xs.length := rv.length.symm
  refine call_comb p1.isList (by rw [List.size_toArray]; omega) (by rw [List.size_toArray]; omega) fun h1 h' k1 k2 hp hit => ?_
  have I2 : Inv X pins σ H1 { s1 with heap := h1 } := I1.kept (t' := s1.toks) k1
  have I3 : Inv X pins σ H1 { s1 with heap := h' } := I2.kept (s := { s1 with heap := h1 }) (t' := s1.toks) k2
  have hle : ∀ c, c ∈ [h1.objs.size + 1, h1.objs.size] → h1.objs.size ≤ c := fun c hc => by
    simp only [List.mem_cons, List.not_mem_nil, or_false] at hc
    omega
  refine iter_comb (s := { s1 with heap := h' }) hit ?_
  refine ⟨h1.objs.size + 1, [h1.objs.size + 1, h1.objs.size], _, _, H1, rfl, I3, turn_comb rv h6 hr (Nat.ne_of_lt (Nat.lt_succ_self _)), ⟨⟨.none, ?_⟩, hp⟩, fun c hc => I2.fpOk (s := { s1 with heap := h1 }) (hle c hc) (I2.hok.fresh (hle c hc)), q⟩
  have hd := cbs_head _ (List.mem_range.mpr h6) r (List.mem_range.mpr (by omega))
  have : cbAt xs.length r 0 = List.range r := by
    unfold cbAt
    rw [List.getD_eq_getElem?_getD, hd]
    rfl
  rw [this]
  exact hit
/-! ### on plain data -/
theorem combL_map {α β : Type} (f : α → β) : ∀ (l : List α) (r : Nat), combL (l.map f) r = (combL l r).map (List.map f)
  | _, 0 => by simp [combL]
  | [], _ + 1 => by simp [combL]
  | a :: l, r + 1 => by
    rw [List.map_cons, combL, combL, combL_map f l r, combL_map f l (r + 1), List.map_append, List.map_map, List.map_map]
    congr 1
theorem combL_cbs {α : Type} (l : List α) (r : Nat) (z : α) : combL l r = (cbs l.length r).map (List.map fun j => l.getD j z) := by
  unfold cbs
  rw [← combL_map]
  congr 1
  refine List.ext_getElem? fun i => ?_
  rw [List.getElem?_map]
  by_cases h : i < l.length
  · rw [List.getElem?_eq_getElem h, List.getElem?_range h]
    simp [List.getElem?_eq_getElem h]
  · rw [List.getElem?_eq_none_iff.mpr (by omega), List.getElem?_eq_none_iff.mpr (by simpa using h)]
    rfl
section
variable {S : Su} {M : Mu}
theorem itS_comb {xs : List V} {ds : List Dt} {r : Nat} (ln : xs.length = ds.length) (h6 : xs.length < 7) (hr : r ≤ xs.length) : ItS S M (Itcb xs r) ((combL ds r).map Dt.tup) (fun B H => Das S M (hv B H) xs ds) :=
  ⟨fun B B' H H' s g => g.same s, fun i B H hi g => by
    rw [List.length_map, combL_cbs ds r .non, List.length_map, ← ln] at hi
    exact hi, fun B H g => by
    rw [List.length_map, combL_cbs ds r .non, List.length_map, ← ln]
    rfl, fun i B H x H' d e g hd y => by
    obtain ⟨T, ix, rfl, nT, e1, rfl⟩ := y
    rw [List.getElem?_map, combL_cbs ds r .non, List.getElem?_map, ← ln, e1] at e
    cases e
    have hin : ∀ j ∈ ix, j < xs.length := cbs_in _ (List.mem_range.mpr h6) r (List.mem_range.mpr (by omega)) ix (List.mem_of_getElem? e1)
    have s : Same H (upd H T (.tup (ix.map fun j => xs.getD j .non))) := same_new nT
    refine ⟨s, .tup' (.inl (.inl (by rw [hv_out fun z => hd T z nT]; exact upd_same))) ?_⟩
    have g2 : Das S M (hv B (upd H T (.tup (ix.map fun j => xs.getD j .non)))) xs ds := g.same (Go.hv (Go.of s))
    clear e1
    generalize hv B (upd H T (.tup (ix.map fun j => xs.getD j .non))) = HH at g2
    clear s
    induction ix with
    | nil => exact .nil
    | cons j ix ih =>
      have hj := hin j (by simp)
      obtain ⟨d, e3, hd3⟩ := g2.get' (List.getElem?_eq_getElem hj)
      refine .cons ?_ (ih fun k hk => hin k (List.mem_cons_of_mem _ hk))
      show Da S M HH (xs.getD j .non) (ds.getD j .non)
      rw [List.getD_eq_getElem?_getD, List.getElem?_eq_getElem hj, List.getD_eq_getElem?_getD, e3]
      exact hd3⟩
end
section
variable {X : Cx} {S : Su} {E : XK} {tg x y : Expr} {wx wr : WE} {p pos : Pos} {nm : Str}
def wComb (wx wr : WE) : WI := fun δ k e => wx δ (fun x => wr δ (fun y => match x, y with | .lst l, .int r => 0 ≤ r ∧ r ≤ l.length ∧ l.length < 7 ∧ k ((combL l r.toNat).map Dt.tup) | _, _ => False) e) e
theorem xComb (hg : Gl X nm) (hm : X.mg nm = some (.type "itertools.combinations")) (h : PE X x (tP S E wx)) (h2 : PE X y (tP S E wr)) (hs : starEach [x, y] X.env = (false, eval x X.env) :: starEach [y] X.env := by rfl) (hpl : (backTo pos (starEach [y] X.env)).any (·.1) = false := by rfl) (hs2 : starEach [y] X.env = (false, eval y X.env) :: starEach [] X.env := by rfl) (hK : X.K = S.K := by rfl) (hdb : (nm == ("__debug__" : Str)) = false := by decide) :
    PI X tg (.Call (.Name nm p) [x, y] [] pos) (tPI S E (wComb wx wr)) :=
  piTo (pi_comb hg hm (pa_cons h (pa_cons h2 pa_nil hs2) hs) hs hpl hdb) fun σ H R ⟨M, A, L, δ, k, e, f, hw, a, ax⟩ =>
  ⟨M, A, L, δ, _, e, f, hw, fun v d H1 s1 m1 hv hk => ⟨M, A, L, δ, _, e, f.step s1 m1, hk, fun u c H2 s2 m2 hu hk2 => by
    have hv2 := hv.same ((Stp.wide s2).hv f.mA)
    match d, c, hk2 with
    | .lst l, .int r, ⟨r0, r1, l6, hk3⟩ =>
      obtain ⟨q, vs, rfl, e1, g⟩ := hv2.list
      obtain ⟨n, rfl⟩ := Int.eq_ofNat_of_zero_le r0
      have ln := g.len
      rw [hK, hu.int_eq]
      refine ⟨q, vs, n, rfl, .inl (.inl (hv_le _ _ e1)), by omega, by omega, a _ _ _ H2 (s1.trans m1 s2) m2 (itS_comb ln (by omega) (by omega)) g hk3⟩, ax.step s1 m1⟩, ax⟩
end
end LW

set_option Elab.async false
set_option linter.all false
set_option maxRecDepth 100000
set_option maxHeartbeats 4000100
/-! plain data: lists of the frame's own lent to a def; an int among ints -/
namespace LW
open L2 PySem.Spec PyProof.Rows PySem
/-- no thing by reference -/
def flatD : Dt → Bool
  | .non | .bl _ | .int _ | .str _ => true
  | _ => false
theorem Da.flat {S : Su} {M : Mu} {H H' : Hp} {v : V} {d : Dt} (h : Da S M H v d) (f : flatD d = true) : Da S M H' v d := by
  cases h with
  | non => exact .non
  | bl b => exact .bl b
  | int i => exact .int i
  | str x => exact .str x
  | _ => cases f
theorem Das.flat {S : Su} {M : Mu} {H H' : Hp} {vs : List V} {ds : List Dt} (h : Das S M H vs ds) (f : ds.all flatD = true) : Das S M H' vs ds :=
  ⟨h.len, fun i v d h1 h2 => (h.all i v d h1 h2).flat (List.all_eq_true.mp f d (List.mem_of_getElem? h2))⟩
theorem flat_ints (ns : List Int) : (ns.map Dt.int).all flatD = true := by
  rw [List.all_map]
  exact List.all_eq_true.mpr
        fun _ _ => rfl
/-- a call that lends lists of the frame's own; a new list of flat things comes back -/
def wCallB (n : Nat) (f : SpF) (wa : WA) : WE := fun δ k e => wa δ (fun xs => xs.length = n ∧ f xs (fun d => (∃ l, d = .lst l ∧ l.all flatD = true) ∧ k d) nE) e
theorem xCallB {X : Cx} {S : Su} {E : XK} {x : Expr} {ws : WA} {f : SpF} {n : Nat} {E1 : XK} (h : PE X x (tCall (spWF S n f) [] E1 (tPAW S E ws))) : PE X x (tPF S E (wCallB n f ws)) := peTo h fun σ H Q ⟨M, A, L, δ, k, e, fr, hw, a, ax⟩ =>
  ⟨M, A, L, δ, _, e, fr, hw, fun vs ds H1 s1 m1 hv hk => by
    show spWF S n f (vs ++ []) H1 Q E1
    rw [List.append_nil]
    exact ⟨M, A, ds, _, nE, by rw [hv.len]; exact hk.1, fun x hx => held_stp s1 m1 fr.hd x (List.mem_append_right _ hx), fr.mA, m1, ⟨hv.len, fun i v d e1 e2 => (hv.all i v d e1 e2).out fr.dis⟩, hk.2, fun p us es H2 n2 s2 m2 ep q2 hk2 => by
      obtain ⟨⟨l, el, fl⟩, hk2⟩ := hk2
      cases el
      exact a p us es H2 (stp_free s1 m1 n2) (s1.trans m1 s2) m2 ep (q2.flat fl) hk2⟩, ax⟩
/-- an int among ints -/
def gInI (x y : Dt) (k : Dt → Prop) : Prop := match x with
  | .int i => ∃ l ns, seqD y = some l ∧ intsOf l = some ns ∧ k (.bl (decide (i ∈ ns)))
  | _ => False
theorem gInI_i (i : Int) (y : Dt) (k : Dt → Prop) : gInI (.int i) y k = ∃ l ns, seqD y = some l ∧ intsOf l = some ns ∧ k (.bl (decide (i ∈ ns))) := Eq.trans rfl rfl
theorem inV_ints (i : Int) (ns : List Int) : inV (.int i) (ns.map V.int) = decide (i ∈ ns) := by
  unfold inV
  rw [List.any_map]
  induction ns with
  | nil => simp
  | cons a ns ih =>
    rw [List.any_cons, ih]
    have : ((fun y => eqV y (.int i)) ∘ V.int) a = decide (i = a) := by
      show (a == i) = _
      by_cases h : i = a
      · rw [decide_eq_true h, h]; exact beq_self_eq_true a
      · rw [decide_eq_false h]; exact beq_eq_false_iff_ne.mpr (Ne.symm h)
    rw [this]
    simp [List.mem_cons]
theorem pInI {S : Su} : OpP S (rIn S.K false) gInI := by
  intro M L A H x y dx dy k Q hd m dis hx hy g a
  unfold gInI at g
  split at g
  · rename_i i
    obtain ⟨l, ns, e1, e2, hk⟩ := g
    have el := intsOf_eq e2
    subst el
    rw [hx.int_eq]
    rcases seqD_of e1 with rfl | rfl
    · obtain ⟨p, vs, rfl, e3, q⟩ := hy.list
      rw [q.of_ints] at e3
      exact ⟨p, _, rfl, .inl (.inl (.inl e3)), rfl, by rw [List.all_map]; exact List.all_eq_true.mpr fun _ _ => rfl, by
        rw [inV_ints]
        exact a _ _ _ .refl m (.bl _) hk⟩
    · obtain ⟨p, vs, rfl, e3, q⟩ := hy.tuple
      rw [q.of_ints] at e3
      exact ⟨p, _, rfl, .inr e3, rfl, by rw [List.all_map]; exact List.all_eq_true.mpr fun _ _ => rfl, by
        rw [inV_ints]
        exact a _ _ _ .refl m (.bl _) hk⟩
  · exact g.elim
/-- name *= e, ints -/
def ipC (c : Int → Int → Prop) (f : Int → Int → Int) : TIp := fun x y H Q => ∃ i j, x = .int i ∧ y = .int j ∧ c i j ∧ Q (.int (f i j)) H
theorem ip_mul {X : Cx} : PIp X .Mult (ipC CMul fun i j => i * j) := by
  intro pins s σ H x y v u
        Q I r1 r2 h
  obtain ⟨i, j, e1, e2, hc, q⟩ := h
  subst e1; subst e2
  obtain ⟨t, rfl⟩ := r1
  obtain ⟨t', rfl⟩ := r2
  exact imul_int ⟨.int _, H, I.tok _, ⟨_, rfl⟩, q⟩ hc.ok
def wAugC (c : Int → Int → Prop) (f : Int → Int → Int) (i : Nat) (w : WE) : WS := fun D δ e => look δ i fun x => w δ (fun y => match x, y with | .int a, .int b => c a b ∧ D.nx (δ.set i (some (.val (.int (f a b))))) | _, _ => False) e
theorem xsAugC {X : Cx} {S : Su} {E : XK} {x : Expr} {i : Nat} {w : WE} {pos : Pos} {c : Int → Int → Prop} {f : Int → Int → Int} {n : Str} {op : Operator} {pos' : Pos} (hN : X.N.Nodup) (hi : X.N[i]? = some n) (hx : Loc X.env.scope n) (h : PE X x (tP S E w)) (ho : PIp X op (ipC c f)) (hf : X.fn n = true ∨ X.env.scope.names.lookup n = some .local := by first | exact .inl rfl | exact .inr rfl | assumption) :
    PS X (.AugAssign (.Name n pos') op x pos) (tPS S E (wAugC c f i w)) := psTo (ps_aug hN hi hx h ho hf) fun D σ H ⟨M, A, L, δ, DP, e, fr, hw, ad⟩ => by
  obtain ⟨d0, e1, hw⟩ := look_of hw
  obtain ⟨v0, e2, h0⟩ := fr.val i d0 e1
  refine ⟨v0, e2, M, A, L, δ, _, e, fr, hw, fun v d H1 s m hv hk => ?_, ad.ex.x⟩
  cases d0 with
  | int a =>
    cases d with
    | int b => exact ⟨a, b, h0.int_eq, hv.int_eq, hk.1, ad.nx L _ _ H1 s.wide ((fr.step s m).set i (.int _)) hk.2⟩
    | _ => exact hk.elim
  | _ => cases d <;> exact hk.elim
end LW

set_option Elab.async false
set_option linter.all false
set_option maxRecDepth 100000
set_option maxHeartbeats 4000100
/-! plain data: each text's own rule, to lay it open -/
namespace LW
open L2 PySem.Spec PyProof.Rows PySem
theorem a_wV (i : Nat) (δ : De) (k : Dt → Prop) (z2 : Er → Prop) : wV i δ k z2 = (look δ i k) := Eq.trans rfl rfl
theorem a_wO (i : Nat) (δ : De) (k : Dt → Prop) (z2 : Er → Prop) : wO i δ k z2 = (lookO δ i k) := Eq.trans rfl rfl
theorem a_wC (d : Dt) (z0 : De) (k : Dt → Prop) (z2 : Er → Prop) : wC d z0 k z2 = (k d) := Eq.trans rfl rfl
theorem a_wBin (g : Dt → Dt → (Dt → Prop) → Prop) (wa wb : WE) (δ : De) (k : Dt → Prop) (e : Er → Prop) : wBin g wa wb δ k e = (wa δ (fun x => wb δ (fun y => g x y k) e) e) := Eq.trans rfl rfl
theorem a_wUn (g : Dt → (Dt → Prop) → Prop) (wa : WE) (δ : De) (k : Dt → Prop) (e : Er → Prop) : wUn g wa δ k e = (wa δ (fun x => g x k) e) := Eq.trans rfl rfl
theorem a_wCal (g : List Dt → (Dt → Prop) → Prop) (wa : WA) (δ : De) (k : Dt → Prop) (e : Er → Prop) : wCal g wa δ k e = (wa δ (fun x => g x k) e) := Eq.trans rfl rfl
theorem a_wMet (g : Dt → List Dt → (Dt → Prop) → Prop) (wo : WE) (wa : WA) (δ : De) (k : Dt → Prop) (e : Er → Prop) : wMet g wo wa δ k e = (wo δ (fun x => wa δ (fun y => g x y k) e) e) := Eq.trans rfl rfl
theorem a_wTst (w : WE) (δ : De) (k : Bool → Prop) (e : Er → Prop) : wTst w δ k e = (w δ (fun d => match d with | .bl b => k b | _ => False) e) := Eq.trans rfl rfl
theorem a_wTru (w : WE) (δ : De) (k : Bool → Prop) (e : Er → Prop) : wTru w δ k e = (w δ (fun d => truD d k) e) := Eq.trans rfl rfl
theorem a_wAnd (wa wb : WT) (δ : De) (k : Bool → Prop) (e : Er → Prop) : wAnd wa wb δ k e = (wa δ (fun b => match b with | true => wb δ k e | false => k false) e) := Eq.trans rfl rfl
theorem a_wOr (wa wb : WT) (δ : De) (k : Bool → Prop) (e : Er → Prop) : wOr wa wb δ k e = (wa δ (fun b => match b with | true => k true | false => wb δ k e) e) := Eq.trans rfl rfl
theorem a_wNot (wa : WT) (δ : De) (k : Bool → Prop) (e : Er → Prop) : wNot wa δ k e = (wa δ (fun b => k (!b)) e) := Eq.trans rfl rfl
theorem a_wAndV (wa wb : WE) (δ : De) (k : Dt → Prop) (e : Er → Prop) : wAndV wa wb δ k e = (wa δ (fun d => match d with | .bl true => wb δ k e | .bl false => k (.bl false) | _ => False) e) := Eq.trans rfl rfl
theorem a_wOrV (wa wb : WE) (δ : De) (k : Dt → Prop) (e : Er → Prop) : wOrV wa wb δ k e = (wa δ (fun d => match d with | .bl true => k (.bl true) | .bl false => wb δ k e | _ => False) e) := Eq.trans rfl rfl
theorem a_wNotV (wa : WE) (δ : De) (k : Dt → Prop) (e : Er → Prop) : wNotV wa δ k e = (wa δ (fun d => match d with | .bl b => k (.bl (!b)) | _ => False) e) := Eq.trans rfl rfl
theorem a_wIf (wt : WT) (wa wb : WE) (δ : De) (k : Dt → Prop) (e : Er → Prop) : wIf wt wa wb δ k e = (wt δ (fun b => match b with | true => wa δ k e | false => wb δ k e) e) := Eq.trans rfl rfl
theorem a_wCh (g g' : Dt → Dt → (Dt → Prop) → Prop) (wa wb wc : WE) (δ : De) (k : Dt → Prop) (e : Er → Prop) : wCh g g' wa wb wc δ k e = (wa δ (fun x => wb δ (fun y => g x y fun z => match z with | .bl true => wc δ (fun u => g' y u k) e | .bl false => k (.bl false) | _ => False) e) e) := Eq.trans rfl rfl
theorem a_wNil  (z0 : De) (k : List Dt → Prop) (z2 : Er → Prop) : wNil z0 k z2 = (k []) := Eq.trans rfl rfl
theorem a_wCons (wa : WE) (wr : WA) (δ : De) (k : List Dt → Prop) (e : Er → Prop) : wCons wa wr δ k e = (wa δ (fun x => wr δ (fun xs => k (x :: xs)) e) e) := Eq.trans rfl rfl
theorem a_wStar (wa : WE) (wr : WA) (δ : De) (k : List Dt → Prop) (e : Er → Prop) : wStar wa wr δ k e = (wa δ (fun x => match x with | .tup l => wr δ (fun xs => k (l ++ xs)) e | .lst l => wr δ (fun xs => k (l ++ xs)) e | _ => False) e) := Eq.trans rfl rfl
theorem a_wTup (wa : WA) (δ : De) (k : Dt → Prop) (e : Er → Prop) : wTup wa δ k e = (wa δ (fun xs => xs.length ≤ sizeLine ∧ k (.tup xs)) e) := Eq.trans rfl rfl
theorem a_wLst (wa : WA) (δ : De) (k : Dt → Prop) (e : Er → Prop) : wLst wa δ k e = (wa δ (fun xs => xs.length ≤ sizeLine ∧ k (.lst xs)) e) := Eq.trans rfl rfl
theorem a_wCall (n : Nat) (f : SpF) (wa : WA) (δ : De) (k : Dt → Prop) (e : Er → Prop) : wCall n f wa δ k e = (wa δ (fun xs => xs.length = n ∧ f xs k e) e) := Eq.trans rfl rfl
theorem a_wNo  (z0 : De) (k : Option Int → Prop) (z2 : Er → Prop) : wNo z0 k z2 = (k none) := Eq.trans rfl rfl
theorem a_wPart (w : WE) (δ : De) (k : Option Int → Prop) (e : Er → Prop) : wPart w δ k e = (w δ (fun d => match d with | .int i => k (some i) | _ => False) e) := Eq.trans rfl rfl
theorem a_wSl (g : Dt → Option Int → Option Int → (Dt → Prop) → Prop) (wx : WE) (wl wh : WO) (δ : De) (k : Dt → Prop) (e : Er → Prop) : wSl g wx wl wh δ k e = (wx δ (fun x => wl δ (fun l => wh δ (fun h => g x l h k) e) e) e) := Eq.trans rfl rfl
theorem a_wgN (i : Nat) (d : Dt) (δ : De) (k : De → Prop) : wgN i d δ k = (k (δ.set i (some (.val d)))) := Eq.trans rfl rfl
theorem a_wgNil  (l : List Dt) (δ : De) (k : De → Prop) : wgNil l δ k = (l = [] ∧ k δ) := Eq.trans rfl rfl
theorem a_wgCons (g : WG) (r : WGs) (l : List Dt) (δ : De) (k : De → Prop) : wgCons g r l δ k = (match l with | d :: ds => g d δ fun δ' => r ds δ' k | [] => False) := Eq.trans rfl rfl
theorem a_wgT (n : Nat) (g : WGs) (d : Dt) (δ : De) (k : De → Prop) : wgT n g d δ k = (match d with | .tup l => l.length = n ∧ g l δ k | _ => False) := Eq.trans rfl rfl
theorem a_wIt (w : WE) (δ : De) (k : List Dt → Prop) (e : Er → Prop) : wIt w δ k e = (w δ (fun d => match d with | .lst l => k l | .tup l => k l | .str x => k (signs x) | _ => False) e) := Eq.trans rfl rfl
theorem a_wRg1 (w : WE) (δ : De) (k : List Dt → Prop) (e : Er → Prop) : wRg1 w δ k e = (w δ (fun d => match d with | .int n => -(2 ^ 62) ≤ n ∧ n < 2 ^ 62 ∧ k (rgI 0 n.toNat) | _ => False) e) := Eq.trans rfl rfl
theorem a_wRg2 (wa wb : WE) (δ : De) (k : List Dt → Prop) (e : Er → Prop) : wRg2 wa wb δ k e = (wa δ (fun x => wb δ (fun y => match x, y with | .int i, .int j => (-(2 ^ 62) ≤ i ∧ i < 2 ^ 62 ∧ -(2 ^ 62) ≤ j ∧ j < 2 ^ 62) ∧ k (rgI i (j - i).toNat) | _, _ => False) e) e) := Eq.trans rfl rfl
theorem a_wRg3 (wa wb wc : WE) (δ : De) (k : List Dt → Prop) (e : Er → Prop) : wRg3 wa wb wc δ k e = (wa δ (fun x => wb δ (fun y => wc δ (fun z => match x, y, z with | .int i, .int j, .int c => ∃ n, RgC i j c n ∧ k (intsC i c n) | _, _, _ => False) e) e) e) := Eq.trans rfl rfl
theorem a_wEnum (w : WE) (δ : De) (k : List Dt → Prop) (e : Er → Prop) : wEnum w δ k e = (w δ (fun d => match d with | .lst l => k (numbered 0 l) | .tup l => k (numbered 0 l) | _ => False) e) := Eq.trans rfl rfl
theorem a_wZip (wa wb : WE) (δ : De) (k : List Dt → Prop) (e : Er → Prop) : wZip wa wb δ k e = (wa δ (fun x => wb δ (fun y => match x, y with | .lst l, .lst r => k (zipped l r) | .tup l, .tup r => k (zipped l r) | _, _ => False) e) e) := Eq.trans rfl rfl
theorem a_wRev (w : WE) (δ : De) (k : List Dt → Prop) (e : Er → Prop) : wRev w δ k e = (w δ (fun d => match d with | .lst l => k l.reverse | .tup l => k l.reverse | _ => False) e) := Eq.trans rfl rfl
theorem a_wYes  (z0 : De) (k : Bool → Prop) (z2 : Er → Prop) : wYes z0 k z2 = (k true) := Eq.trans rfl rfl
theorem a_wLc (vs : List Nat) (wi : WI) (g : WG) (wt : WT) (we : WE) (δ : De) (k : Dt → Prop) (e : Er → Prop) : wLc vs wi g wt we δ k e = (wi δ (fun items => items.length ≤ 10000000 ∧
    lcL (fun d k' => g d (wipeD δ vs) fun δ' => wt δ' (fun b => match b with | true => we δ' (fun y => k' (some y)) nE | false => k' none) nE) items [] (fun out => k (.lst out))) e) := Eq.trans rfl rfl
theorem a_wNx  (D : EndD) (δ : De) (z2 : Er → Prop) : wNx D δ z2 = (D.nx δ) := Eq.trans rfl rfl
theorem a_wSeq (a b : WS) (D : EndD) (δ : De) (e : Er → Prop) : wSeq a b D δ e = (a { D with nx := fun δ' => b D δ' e } δ e) := Eq.trans rfl rfl
theorem a_wBk  (D : EndD) (δ : De) (z2 : Er → Prop) : wBk D δ z2 = (D.bk δ) := Eq.trans rfl rfl
theorem a_wCt  (D : EndD) (δ : De) (z2 : Er → Prop) : wCt D δ z2 = (D.ct δ) := Eq.trans rfl rfl
theorem a_wNev  (z0 : EndD) (z1 : De) (z2 : Er → Prop) : wNev z0 z1 z2 = (False) := Eq.trans rfl rfl
theorem a_wEx (w : WE) (D : EndD) (δ : De) (e : Er → Prop) : wEx w D δ e = (w δ (fun _ => D.nx δ) e) := Eq.trans rfl rfl
theorem a_wSet (i : Nat) (w : WE) (D : EndD) (δ : De) (e : Er → Prop) : wSet i w D δ e = (w δ (fun d => D.nx (δ.set i (some (.val d)))) e) := Eq.trans rfl rfl
theorem a_wOwn (i : Nat) (w : WE) (D : EndD) (δ : De) (e : Er → Prop) : wOwn i w D δ e = (w δ (fun d => match d with | .lst l => D.nx (δ.set i (some (.own l))) | _ => False) e) := Eq.trans rfl rfl
theorem a_wAsg (w : WE) (g : WG) (D : EndD) (δ : De) (e : Er → Prop) : wAsg w g D δ e = (w δ (fun d => g d δ D.nx) e) := Eq.trans rfl rfl
theorem a_wPar (i j : Nat) (wa : WA) (D : EndD) (δ : De) (e : Er → Prop) : wPar i j wa D δ e = (wa δ (fun l => match l with | [a, b] => D.nx ((δ.set i (some (.val a))).set j (some (.val b))) | _ => False) e) := Eq.trans rfl rfl
theorem a_wRet (w : WE) (D : EndD) (δ : De) (e : Er → Prop) : wRet w D δ e = (w δ D.rt e) := Eq.trans rfl rfl
theorem a_wRetN  (D : EndD) (z1 : De) (z2 : Er → Prop) : wRetN D z1 z2 = (D.rt .non) := Eq.trans rfl rfl
theorem a_wRetF (w : WE) (D : EndD) (δ : De) (e : Er → Prop) : wRetF w D δ e = (w δ (fun d => match d with | .lst l => D.rf l | _ => False) e) := Eq.trans rfl rfl
theorem a_wIfS (c : WT) (a b : WS) (D : EndD) (δ : De) (e : Er → Prop) : wIfS c a b D δ e = (c δ (fun r => match r with | true => a D δ e | false => b D δ e) e) := Eq.trans rfl rfl
theorem a_wFor (wi : WI) (g : WG) (b : WS) (D : EndD) (δ : De) (e : Er → Prop) : wFor wi g b D δ e = (wi δ (fun items => forL g b D e items δ) e) := Eq.trans rfl rfl
theorem a_wWhile (c : WT) (b : WS) (D : EndD) (δ : De) (e : Er → Prop) : wWhile c b D δ e = (∃ n, whN c b D e n δ) := Eq.trans rfl rfl
theorem a_wRetFO (i : Nat) (D : EndD) (δ : De) (z2 : Er → Prop) : wRetFO i D δ z2 = (lookL δ i D.rf) := Eq.trans rfl rfl
theorem a_wParO (i j : Nat) (wa wb : WE) (D : EndD) (δ : De) (e : Er → Prop) : wParO i j wa wb D δ e = (wa δ (fun a => wb δ (fun b => match b with | .lst l => D.nx ((δ.set i (some (.val a))).set j (some (.own l))) | _ => False) e) e) := Eq.trans rfl rfl
theorem a_wApp (i : Nat) (w : WE) (D : EndD) (δ : De) (e : Er → Prop) : wApp i w D δ e = (lookL δ i fun l => w δ (fun d => l.length < sizeLine ∧ D.nx (δ.set i (some (.own (l ++ [d]))))) e) := Eq.trans rfl rfl
theorem a_wExt (i : Nat) (w : WE) (D : EndD) (δ : De) (e : Er → Prop) : wExt i w D δ e = (lookL δ i fun l => w δ (fun d => match d with | .lst r => l.length + r.length ≤ sizeLine ∧ D.nx (δ.set i (some (.own (l ++ r)))) | _ => False) e) := Eq.trans rfl rfl
theorem a_wFrz (i : Nat) (b : WS) (D : EndD) (δ : De) (e : Er → Prop) : wFrz i b D δ e = (lookL δ i fun l => b D (δ.set i (some (.val (.lst l)))) e) := Eq.trans rfl rfl
theorem a_wAugI (f : Int → Int → Int) (i : Nat) (w : WE) (D : EndD) (δ : De) (e : Er → Prop) : wAugI f i w D δ e = (look δ i fun x => w δ (fun y => match x, y with | .int a, .int b => D.nx (δ.set i (some (.val (.int (f a b))))) | _, _ => False) e) := Eq.trans rfl rfl
theorem a_wSetIx (i : Nat) (wj w : WE) (D : EndD) (δ : De) (e : Er → Prop) : wSetIx i wj w D δ e = (lookL δ i fun l => w δ (fun d => wj δ (fun j => match j with | .int j => ∃ l', setAt l j d = some l' ∧ D.nx (δ.set i (some (.own l'))) | _ => False) e) e) := Eq.trans rfl rfl
theorem a_wAugIx (f : Int → Int → Int) (i : Nat) (wj w : WE) (D : EndD) (δ : De) (e : Er → Prop) : wAugIx f i wj w D δ e = (lookL δ i fun l => wj δ (fun j => match j with | .int j => ∃ a, atD l j = some (.int a) ∧ w δ (fun d => match d with | .int b => ∃ l', setAt l j (.int (f a b)) = some l' ∧ D.nx (δ.set i (some (.own l'))) | _ => False) e | _ => False) e) := Eq.trans rfl rfl
theorem a_wFn (N : Nat) (w : WS) (ds : List Dt) (k : Dt → Prop) (z2 : Er → Prop) : wFn N w ds k z2 = (w { nx := fun _ => k .non, rt := k } (ds.map (fun d => some (.val d)) ++ List.replicate (N - ds.length) none) nE) := Eq.trans rfl rfl
theorem a_wFnX (N : Nat) (w : WS) (ds : List Dt) (k : Dt → Prop) (e : Er → Prop) : wFnX N w ds k e = (w { nx := fun _ => k .non, rt := k } (ds.map (fun d => some (.val d)) ++ List.replicate (N - ds.length) none) e) := Eq.trans rfl rfl
theorem a_wFnF (N : Nat) (w : WS) (ds : List Dt) (k : Dt → Prop) (z2 : Er → Prop) : wFnF N w ds k z2 = (w { nx := fun _ => False, rt := fun _ => False, rf := fun l => k (.lst l) } (ds.map (fun d => some (.val d)) ++ List.replicate (N - ds.length) none) nE) := Eq.trans rfl rfl
theorem a_wCall0 (n : Nat) (f : SpF) (wa : WA) (δ : De) (k : Dt → Prop) (e : Er → Prop) : wCall0 n f wa δ k e = (wa δ (fun xs => xs.length = n ∧ f xs k nE) e) := Eq.trans rfl rfl
theorem a_wCallK (m n : Nat) (ix : List Nat) (f : SpF) (wa : WA) (δ : De) (k : Dt → Prop) (e : Er → Prop) : wCallK m n ix f wa δ k e = (wa δ (fun xs => xs.length = m ∧ (pickL ix xs).length = n ∧ f (pickL ix xs) k nE) e) := Eq.trans rfl rfl
theorem a_wFld (kd : Nat) (fv : Dt → Dt) (w : WE) (δ : De) (k : Dt → Prop) (e : Er → Prop) : wFld kd fv w δ k e = (w δ (fun x => match x with | .obj j d => j = kd ∧ k (fv d) | _ => False) e) := Eq.trans rfl rfl
theorem a_wMth (kd n : Nat) (f : SpF) (w : WE) (wa : WA) (δ : De) (k : Dt → Prop) (e : Er → Prop) : wMth kd n f w wa δ k e = (w δ (fun x => match x with | .obj j d => j = kd ∧ wa δ (fun xs => xs.length + 1 = n ∧ f (.obj j d :: xs) k nE) e | _ => False) e) := Eq.trans rfl rfl
theorem a_wM1 (g : Dt → List Dt → (Dt → Prop) → Prop) (wo wa : WE) (δ : De) (k : Dt → Prop) (e : Er → Prop) : wM1 g wo wa δ k e = (wo δ (fun x => match x with | .str _ => wa δ (fun y => g x [y] k) e | _ => False) e) := Eq.trans rfl rfl
theorem a_wM0 (g : Dt → List Dt → (Dt → Prop) → Prop) (wo : WE) (δ : De) (k : Dt → Prop) (e : Er → Prop) : wM0 g wo δ k e = (wo δ (fun x => match x with | .str _ => g x [] k | _ => False) e) := Eq.trans rfl rfl
theorem a_wZipU (wa wb : WE) (δ : De) (k : List Dt → Prop) (e : Er → Prop) : wZipU wa wb δ k e = (wa δ (fun x => wb δ (fun y => ∃ l r, seqD x = some l ∧ seqD y = some r ∧ k (zipped l r)) e) e) := Eq.trans rfl rfl
theorem a_wEnumU (w : WE) (δ : De) (k : List Dt → Prop) (e : Er → Prop) : wEnumU w δ k e = (w δ (fun d => ∃ l, seqD d = some l ∧ k (numbered 0 l)) e) := Eq.trans rfl rfl
theorem a_wEnumL (w : WE) (δ : De) (k : List Dt → Prop) (e : Er → Prop) : wEnumL w δ k e = (w δ (fun d => ∃ l, seqD d = some l ∧ (match d with | .lst _ => True | _ => False) ∧ k (numbered 0 l)) e) := Eq.trans rfl rfl
theorem a_wRevU (w : WE) (δ : De) (k : List Dt → Prop) (e : Er → Prop) : wRevU w δ k e = (w δ (fun d => ∃ l, seqD d = some l ∧ k l.reverse) e) := Eq.trans rfl rfl
theorem a_wCalK (g : List Dt → List Dt → (Dt → Prop) → Prop) (wa wk : WA) (δ : De) (k : Dt → Prop) (e : Er → Prop) : wCalK g wa wk δ k e = (wa δ (fun xs => wk δ (fun zs => g xs zs k) e) e) := Eq.trans rfl rfl
theorem a_wComb (wx wr : WE) (δ : De) (k : List Dt → Prop) (e : Er → Prop) : wComb wx wr δ k e = (wx δ (fun x => wr δ (fun y => match x, y with | .lst l, .int r => 0 ≤ r ∧ r ≤ l.length ∧ l.length < 7 ∧ k ((combL l r.toNat).map Dt.tup) | _, _ => False) e) e) := Eq.trans rfl rfl
theorem a_wCallB (n : Nat) (f : SpF) (wa : WA) (δ : De) (k : Dt → Prop) (e : Er → Prop) : wCallB n f wa δ k e = (wa δ (fun xs => xs.length = n ∧ f xs (fun d => (∃ l, d = .lst l ∧ l.all flatD = true) ∧ k d) nE) e) := Eq.trans rfl rfl
theorem a_wAugC (c : Int → Int → Prop) (f : Int → Int → Int) (i : Nat) (w : WE) (D : EndD) (δ : De) (e : Er → Prop) : wAugC c f i w D δ e = (look δ i fun x => w δ (fun y => match x, y with | .int a, .int b => c a b ∧ D.nx (δ.set i (some (.val (.int (f a b))))) | _, _ => False) e) := Eq.trans rfl rfl
theorem a_look0 (d : Dt) (δ : De) (k : Dt → Prop) : look (some (.val d) :: δ) 0 k = k d := Eq.trans rfl rfl
theorem a_lookS (x : Option Sl) (δ : De) (n : Nat) (k : Dt → Prop) : look (x :: δ) (n + 1) k = look δ n k := by
  cases x with
  | none => rfl
  | some s => cases s <;> rfl
theorem a_lookO0 (d : Dt) (δ : De) (k : Dt → Prop) : lookO (some (.val d) :: δ) 0 k = k d := Eq.trans rfl rfl
theorem a_lookO1 (l : List Dt) (δ : De) (k : Dt → Prop) : lookO (some (.own l) :: δ) 0 k = k (.lst l) := Eq.trans rfl rfl
theorem a_lookOS (x : Option Sl) (δ : De) (n : Nat) (k : Dt → Prop) : lookO (x :: δ) (n + 1) k = lookO δ n k := by
  cases x with
  | none => rfl
  | some s => cases s <;> rfl
theorem a_lookL0 (l : List Dt) (δ : De) (k : List Dt → Prop) : lookL (some (.own l) :: δ) 0 k = k l := Eq.trans rfl rfl
theorem a_lookLS (x : Option Sl) (δ : De) (n : Nat) (k : List Dt → Prop) : lookL (x :: δ) (n + 1) k = lookL δ n k := by
  cases x with
  | none => rfl
  | some s => cases s <;> rfl
theorem a_set0 {α : Type} (a b : α) (l : List α) : List.set (a :: l) 0 b = b :: l := Eq.trans rfl rfl
theorem a_setS {α : Type} (a b : α) (l : List α) (n : Nat) : List.set (a :: l) (n + 1) b = a :: List.set l n b := Eq.trans rfl rfl
theorem a_len0 {α : Type} : ([] : List α).length = 0 := Eq.trans rfl rfl
theorem a_lenS {α : Type} (a : α) (l : List α) : (a :: l).length = l.length + 1 := Eq.trans rfl rfl
theorem a_map0 {α β : Type} (f : α → β) : List.map f [] = [] := Eq.trans rfl rfl
theorem a_mapS {α β : Type} (f : α → β) (a : α) (l : List α) : List.map f (a :: l) = f a :: List.map f l := Eq.trans rfl rfl
theorem a_app0 {α : Type} (l : List α) : [] ++ l = l := Eq.trans rfl rfl
theorem a_appS {α : Type} (a : α) (l r : List α) : (a :: l) ++ r = a :: (l ++ r) := Eq.trans rfl rfl
end LW

set_option Elab.async false
set_option linter.all false
set_option maxRecDepth 100000
set_option maxHeartbeats 4000100
/-! plain data: calls by keyword, and the ways to work out what a text computes -/
namespace LW
open L2 PySem.Spec PyProof.Rows PySem
/-- as CalP, where nothing is being shown -/
structure CalPG (P : Program) (w : World) (K : PySem.W.Frag) (mg : Str → Option Value) (base : Heap) (k : Nat) (x : Str) (ks : List Str) (ix : List Nat) (sp : Sp) : Prop where
  ex : ∃ (f : Addr) (fd : FuncData) (ps : List Str), FnG P w K mg base CX0 k f fd ps sp ∧ mg x = some (.ref f) ∧ PySem.W.keepIn K (.ref f) = true ∧
    ∀ (s : Shared) (ws : List Value), K.In s.heap → (pickL ix ws).length = ps.length → ws.length = ks.length → BindsTo s fd ⟨[], ks.zip ws⟩ (ps.zip (pickL ix ws))
section
variable {X : Cx} {k j : Nat} {x : Str} {sp : Sp} {p pos : Pos} {kws : List Keyword} {tk : TA} {ks : List Str} {ix : List Nat}
theorem pe_ckPG (quiet : X.A.guards = some []) (cl : CalPG X.prog X.w X.K X.mg X.base k x ks ix sp) (hr : Room j X.A) (hk : k ≤ j) (hg : Gl X x) (hkw : PK X kws tk)
    (hdb : (x == ("__debug__" : Str)) = false := by decide)
    (hall : (backToKw pos (keywordEach kws X.env)).all (·.1.isSome) = true := by rfl)
    (hks : (backToKw pos (keywordEach kws X.env)).filterMap (·.1) = ks := by rfl)
    (hplain : ((backTo pos (starEach [] X.env)).any (·.1) || (backToKw pos (keywordEach kws X.env)).any (·.1.isNone)) = false := by rfl) :
    PE X (.Call (.Name x p) [] kws pos) (tCallP ix ks.length sp E0 tk) := by
  obtain ⟨f, fd, ps, F, m, kp, b⟩ := cl.ex
  constructor
  intro pins s σ H Q I h
  refine wpAny_Call_Name_kw (ld_glob I hg m ?_ hdb)
  refine PySem.W.callWith_KW0 (first := []) (h₀ := X.base) I.ok.mod.kin kp hall (thn (hkw.run pos pins s σ H _ I h) ?_) hplain
  rintro ws s2 ⟨zs, H2, I2, rz, ln, q2⟩
  refine ⟨I2.kIn, ?_⟩
  rw [hks]
  have rel := vals_pick rz ix
  have ln2 : (pickL ix ws).length = ps.length := by rw [← rel.length]; exact F.args _ _ _ _ q2
  refine wpAny_call (codeAny_mono (F.runs X.A X.stack s2 H2 ⟨[], ks.zip ws⟩ (pickL ix ws) (pickL ix zs) Q E0 (hr.mono hk) quiet I2.env0 (b s2 ws I2.kIn ln2 (by rw [← rz.length]; exact ln)) rel q2) ?_)
  intro res s' fin
  match res, fin with
  | .error er, fin => exact pass0 pins σ H2 s2 er s' I2 fin
  | .ok (.ret u), fin => exact I2.after fin
  | .ok .next, fin => exact fin.elim
  | .ok .brk, fin => exact fin.elim
  | .ok .cont, fin => exact fin.elim
end
section
variable {P : Program} {w : World} {K : PySem.W.Frag} {mg : Str
      → Option Value} {base : Heap}
theorem CalPG.imp {k : Nat} {x : Str} {ks : List Str} {ix : List Nat} {sp sp' : Sp} (c : CalPG P w K mg base k x ks ix sp) (h : ∀ vs H Q E, sp' vs H Q E → sp vs H Q E) : CalPG P w K mg base k x ks ix sp' := by
  obtain ⟨f, fd, ps, F, r⟩ := c.ex
  exact ⟨f, fd, ps, F.imp h, r⟩
theorem CalP.g {k : Nat} {x : Str} {ks : List Str} {ix : List Nat} {sp : Sp} (c : CalP P w K mg base k x ks ix sp) : CalPG P w K mg base k x ks ix sp := by
  obtain ⟨f, fd, ps, F, r⟩ := c.ex
  exact ⟨f, fd, ps, FnG.of F, r⟩
/-- what a def's body promises -/
def Bdy (P : Program) (w : World) (K : PySem.W.Frag) (mg : Str → Option Value) (base : Heap) (k : Nat) (x : Str) (st : Stmt) (N : List Str) (S : Su) (wb : WS) : Prop :=
  ∀ (f : Addr) (cdv : Value) (A : Around) (outer : List Env) (s : Shared) (H : Hp) (E : XK), Room k (A.deeper (envOfC x (defScope st) s.heap.objs.size f cdv)) → A.guards = some [] →
      PSs (cxOf CX0 P w K mg base N x (defScope st) f cdv A outer s H E).nox (defBody st) (tPS S E0' wb)
theorem calG_by {S : Su} {x : Str} {st : Stmt} {N ps : List Str} {wb : WS} {k n : Nat} (DD : OwnDef K mg x st) (sc : FnScope N ps (defScope st)) (hn : n = ps.length)
    (bd : ∀ fd : FuncData, (∀ (f : Addr), Fun K x x st f fd → Binds K fd ps [])) (body : Bdy P w K mg base k x st N S wb) : CalG P w K mg base (k + 1) x (spW S n (wFn N.length wb)) [] := calG_of DD sc hn bd body
/-- a def that gives a list back which nothing else knows -/
theorem calGF_by {S : Su} {x : Str} {st : Stmt} {N ps : List Str} {wb : WS} {k n : Nat} (DD : OwnDef K mg x st) (sc : FnScope N ps (defScope st)) (hn : n = ps.length)
    (bd : ∀ fd : FuncData, (∀ (f : Addr), Fun K x x st f fd → Binds K fd ps [])) (body : Bdy P w K mg base k x st N S wb) : CalG P w K mg base (k + 1) x (spWF S n (wFnF N.length wb)) [] := by
  obtain ⟨f, fd, F, hm⟩ := DD.ex
  exact ⟨f, fd, ps, [], Fun_okG F sc (fun vs H Q E h => by rw [← hn]; exact spWF_len vs H Q E h) (fun cdv A outer s H vs Q E hr hq h => ⟨_, body f cdv A outer s H E hr hq, fnTF h⟩), hm, F.kp, bd fd f F, .nil⟩
theorem calGF_never {S : Su} {x : Str} {st : Stmt} {ps : List Str} {k n : Nat} (DD : OwnDef K mg x st)
    (bd : ∀ fd : FuncData, (∀ (f : Addr), Fun K x x st f fd → Binds K fd ps [])) : CalG P w K mg base k x (spWF S n fun _ _ _ => False) [] := by
  obtain ⟨f, fd, F, hm⟩ := DD.ex
  exact ⟨f, fd, ps, [], ⟨fun vs H Q E ⟨_, _, _, _, _, _, _, _, _, _, hw, _⟩ => hw.elim, fun A outer s H given us vs Q E _ _ _ _ _ ⟨_, _, _, _, _, _, _, _, _, _, hw, _⟩ => hw.elim⟩, hm, F.kp, bd fd f F, .nil⟩
/-- what is promised of nothing -/
theorem calG_never {S : Su} {x : Str} {st : Stmt} {ps : List Str} {k n : Nat} (DD : OwnDef K mg x st)
    (bd : ∀ fd : FuncData, (∀ (f : Addr), Fun K x x st f fd → Binds K fd ps [])) : CalG P w K mg base k x (spW S n fun _ _ _ => False) [] := by
  obtain ⟨f, fd, F, hm⟩ := DD.ex
  exact ⟨f, fd, ps, [], ⟨fun vs H Q E ⟨_, _, _, _, _, _, _, _, _, _, hw, _⟩ => hw.elim, fun A outer s H given us vs Q E _ _ _ _ _ ⟨_, _, _, _, _, _, _, _, _, _, hw, _⟩ => hw.elim⟩, hm, F.kp, bd fd f F, .nil⟩
theorem calPG_by {S : Su} {x : Str} {st : Stmt} {N ps : List Str} {wb : WS} {k n : Nat} {ks : List Str} {ix : List Nat} (DD : OwnDef K mg x st) (sc : FnScope N ps (defScope st)) (hn : n = ps.length)
    (bd : ∀ (f : Addr) (fd : FuncData), Fun K x x st f fd → ∀ (s : Shared) (ws : List Value), (pickL ix ws).length = ps.length → ws.length = ks.length → BindsTo s fd ⟨[], ks.zip ws⟩ (ps.zip (pickL ix ws)))
    (body : Bdy P w K mg base k x st N S wb) : CalPG P w K mg base (k + 1) x ks ix (spW S n (wFn N.length wb)) := by
  obtain ⟨f, fd, F, hm⟩ := DD.ex
  exact ⟨f, fd, ps, Fun_okG F sc (fun vs H Q E h => by rw [← hn]; exact spW_len vs H Q E h) (fun cdv A outer s H vs Q E hr hq h => ⟨_, body f cdv A outer s H E hr hq, fnT h⟩), hm, F.kp, fun s ws _ => bd f fd F s ws⟩
end
/-! ### loops -/
section
variable {g : WG} {b : WS} {D : EndD} {e : Er → Prop} {c : WT}
theorem forL_by (I : Nat → De → Prop) {items : List Dt} {δ : De} (h0 : I 0 δ)
    (step : ∀ (i : Nat) (d : Dt) (δ : De) (K : De → Prop), items[i]? = some d → I i δ → (∀ δ', I (i + 1) δ' → K δ') → g d δ fun δ' => b { nx := K, rt := D.rt, bk := D.nx, ct := K, rf := D.rf } δ' e)
    (fin : ∀ δ, I items.length δ → D.nx δ) : forL g b D e items δ := by
  have key : ∀ (l : List Dt) (i : Nat) (δ : De), items.drop i = l → i ≤ items.length → I i δ → forL g b D e l δ := by
    intro l
    induction l with
    | nil =>
      intro i δ el hi h
      have : i = items.length := by
        have := congrArg List.length el
        rw [List.length_drop] at this
        simp at this
        omega
      subst this
      exact fin _ h
    | cons d l ih =>
      intro i δ el hi h
      have lt : i < items.length := by
        have := congrArg List.length el
        rw [List.length_drop] at this
        simp at this
        omega
      rw [List.drop_eq_getElem_cons lt] at el
      injection el with e1 e2
      exact step i d δ _ (by rw [List.getElem?_eq_getElem lt, e1]) h fun δ' h' => ih (i + 1) δ' e2 lt h'
  exact key items 0 δ rfl (Nat.zero_le _) h0
theorem whN_by (I : Nat → De → Prop) (m : Nat) {δ : De} (h0 : I m δ)
    (step : ∀ (m : Nat) (δ : De) (K : De → Prop), I m δ → (∀ m' δ', m' < m → I m' δ' → K δ') → c δ (fun r => match r with | true => b { nx := K, rt := D.rt, bk := D.nx, ct := K, rf := D.rf } δ e | false => D.nx δ) e) :
    wWhile c b D δ e := by
  have key : ∀ (n m : Nat) (δ : De), m < n → I m δ → whN c b D e n δ := by
    intro n
    induction n with
    | zero => intro m δ h; omega
    | succ n ih =>
      intro m δ h hI
      exact step m δ _ hI fun m' δ' hl hI' => ih m' δ' (by omega) hI'
  exact ⟨m + 1, key (m + 1) m δ (Nat.lt_succ_self m) h0⟩
variable {f : Dt → (Option Dt → Prop) → Prop} {k : List Dt → Prop}
theorem lcL_by (I : Nat → List Dt → Prop) {items : List Dt} {acc : List Dt} (h0 : I 0 acc)
    (step : ∀ (i : Nat) (d : Dt) (acc : List Dt) (K : Option Dt → Prop), items[i]? = some d → I i acc → (∀ o, I (i + 1) (match o with | some y => acc ++ [y] | none => acc) → K o) → f d K)
    (fin : ∀ acc, I items.length acc → k acc) : lcL f items acc k := by
  have key : ∀ (l : List Dt) (i : Nat) (acc : List Dt), items.drop i = l → i ≤ items.length → I i acc → lcL f l acc k := by
    intro l
    induction l with
    | nil =>
      intro i acc el hi h
      have : i = items.length := by
        have := congrArg List.length el
        rw [List.length_drop] at this
        simp at this
        omega
      subst this
      exact fin _ h
    | cons d l ih =>
      intro i acc el hi h
      have lt : i < items.length := by
        have := congrArg List.length el
        rw [List.length_drop] at this
        simp at this
        omega
      rw [List.drop_eq_getElem_cons lt] at el
      injection el with e1 e2
      exact step i d acc _ (by rw [List.getElem?_eq_getElem lt, e1]) h fun o h' => ih (i + 1) _ e2 lt h'
  exact key items 0 acc rfl (Nat.zero_le _) h0
/-- one value of each -/
theorem lcL_rel (R : Nat → Dt → Dt → Prop) {items : List Dt} (step : ∀ (i : Nat) (d : Dt) (K : Option Dt → Prop), items[i]? = some d → (∀ y, R i d y → K (some y)) → f d K)
    (fin : ∀ out : List Dt, out.length = items.length → (∀ (i : Nat) (d y : Dt), items[i]? = some d → out[i]? = some y → R i d y) → k out) : lcL f items [] k := by
  refine lcL_by (fun i acc => acc.length = i ∧ ∀ (j : Nat) (d y : Dt), items[j]? = some d → acc[j]? = some y → R j d y) ⟨rfl, fun j d y _ h => by simp at h⟩ (fun i d acc K hd hI hK => step i d K hd fun y hy => hK _ ⟨by rw [List.length_append, hI.1]; rfl, fun j d' y' h1 h2 => ?_⟩) fun acc h => fin acc h.1 h.2
  rcases Nat.lt_or_ge j acc.length with z | z
  · rw [List.getElem?_append_left z] at h2
    exact hI.2 j d' y' h1 h2
  · rw [List.getElem?_append_right z] at h2
    cases q : j - acc.length with
    | zero =>
      rw [q] at h2
      cases h2
      have : j = i := by have := hI.1; omega
      subst this
      rw [hd] at h1
      cases h1
      exact hy
    | succ n => rw [q] at h2; simp at h2
/-- the one value of each -/
theorem lcL_map (h : Dt → Dt) {items : List Dt} (step : ∀ (d : Dt) (K : Option Dt → Prop), d ∈ items → K (some (h d)) → f d K) (fin : k (items.map h)) : lcL f items [] k := by
  refine lcL_rel (fun _ d y => y = h d) (fun i d K hd hK => step d K (List.mem_of_getElem? hd) (hK _ rfl)) fun out hl ho => ?_
  have : out = items.map h := by
    refine List.ext_getElem (by rw [hl, List.length_map]) fun i h1 h2 => ?_
    rw [List.getElem_map]
    exact ho i _ _ (List.getElem?_eq_getElem (by rw [← hl]; exact h1)) (List.getElem?_eq_getElem h1)
  rw [this]
  exact fin
/-- .. of those that are let -/
theorem lcL_filter (p : Dt → Bool) (h : Dt → Dt) {items : List Dt} (step : ∀ (d : Dt) (K : Option Dt → Prop), d ∈ items → K (if p d then some (h d) else none) → f d K) (fin : k ((items.filter p).map h)) : lcL f items [] k := by
  refine lcL_by (fun i acc => acc = ((items.take i).filter p).map h) (by simp) (fun i d acc K hd hI hK => ?_) fun acc hI => by rw [hI, List.take_length]; exact fin
  refine step d K (List.mem_of_getElem? hd) (hK _ ?_)
  have lt := (List.getElem?_eq_some_iff.mp hd).1
  have e1 : items[i] = d := (List.getElem?_eq_some_iff.mp hd).2
  rw [List.take_add_one, hd, Option.toList_some, List.filter_append, List.map_append, hI]
  cases q : p d with
  | true => simp [q]
  | false => simp [q]
end
theorem shapedI (i : Int) : SeqAt.shaped (.int i) = true := by simp [SeqAt.shaped, PyData.canLay0, PyData.depth]
theorem shapedX {i : Str} (h : PyData.strOk i = true) : SeqAt.shaped (.str i) = true := by simp [SeqAt.shaped, PyData.canLay0, PyData.depth, h]
theorem gEq_of {x y : Dt} {p q : PyData} (e1 : toPy x = some p) (e2 : toPy y = some q) (s1 : SeqAt.shaped p = true) (s2 : SeqAt.shaped q = true) (k : Dt → Prop) : gEq x y k = k (.bl (PyData.eqv p q)) := by
  apply propext
  constructor
  · rintro ⟨b, ⟨p', q', a1, a2, _, _, rfl⟩, h⟩
    cases e1.symm.trans a1
    cases e2.symm.trans a2
    exact h
  · intro h
    exact ⟨_, ⟨p, q, e1, e2, s1, s2, rfl⟩, h⟩
theorem gNe_of {x y : Dt} {p q : PyData} (e1 : toPy x = some p) (e2 : toPy y = some q) (s1 : SeqAt.shaped p = true) (s2 : SeqAt.shaped q = true) (k : Dt → Prop) : gNe x y k = k (.bl (!PyData.eqv p q)) := by
  apply propext
  constructor
  · rintro ⟨b, ⟨p', q', a1, a2, _, _, rfl⟩, h⟩
    cases e1.symm.trans a1
    cases e2.symm.trans a2
    exact h
  · intro h
    exact ⟨_, ⟨p, q, e1, e2, s1, s2, rfl⟩, h⟩
theorem eqv_int (i j : Int) : PyData.eqv (.int i) (.int j) = decide (i = j) := by
  rw [PyData.eqv]
  exact Bool.eq_iff_iff.mpr (by simp)
theorem eqv_str (i j : Str) : PyData.eqv (.str i) (.str j) = decide (i = j) := by
  rw [PyData.eqv]
  exact Bool.eq_iff_iff.mpr (by simp)
theorem gEq_int (i j : Int) (k : Dt → Prop) : gEq (.int i) (.int j) k = k (.bl (decide (i = j))) := by rw [gEq_of (p := .int i) (q := .int j) rfl rfl (shapedI _) (shapedI _), eqv_int]
theorem gNe_int (i j : Int) (k : Dt → Prop) : gNe (.int i) (.int j) k = k (.bl (!decide (i = j))) := by rw [gNe_of (p := .int i) (q := .int j) rfl rfl (shapedI _) (shapedI _), eqv_int]
theorem gEq_str {i j : Str} (h : PyData.strOk i = true) (h2 : PyData.strOk j = true) (k : Dt → Prop) : gEq (.str i) (.str j) k = k (.bl (decide (i = j))) := by rw [gEq_of (p := .str i) (q := .str j) rfl rfl (shapedX h) (shapedX h2), eqv_str]
theorem gNe_str {i j : Str} (h : PyData.strOk i = true) (h2 : PyData.strOk j = true) (k : Dt → Prop) : gNe (.str i) (.str j) k = k (.bl (!decide (i = j))) := by rw [gNe_of (p := .str i) (q := .str j) rfl rfl (shapedX h) (shapedX h2), eqv_str]
mutual
theorem eqv_refl : ∀ p : PyData, p.hasDict = false → PyData.eqv p p = true
  | .none, _ => by rw [PyData.eqv]
  | .bool _, _ => by rw [PyData.eqv]; simp
  | .int _, _ => by rw [PyData.eqv]; simp
  | .str _, _ => by rw [PyData.eqv]; simp
  | .list l, h => by rw [PyData.eqv]; exact eqv_refls l (by simpa [PyData.hasDict] using h)
  | .tuple l, h => by rw [PyData.eqv]; exact eqv_refls l (by simpa [PyData.hasDict] using h)
  | .dict _, h => by simp [PyData.hasDict] at h
theorem eqv_refls : ∀ l : List PyData, PyData.hasDictAll l = false → PyData.eqvAll l l = true
  | [], _ => by rw [PyData.eqvAll]
  | x :: l, h => by
    simp only [PyData.hasDictAll, Bool.or_eq_false_iff] at h
    rw [PyData.eqvAll, eqv_refl x h.1, eqv_refls l h.2]
    rfl
end
theorem gIsi_of {d : Dt} {n t : String} {b : Bool} (h : tyD d = some t) (e : kitB t n = some b) (k : Dt → Prop) : gIsi [d, .ty n] k = k (.bl b) := by
  apply propext
  constructor
  · rintro ⟨t', b', h', e', hk⟩
    cases h.symm.trans h'
    cases e.symm.trans e'
    exact hk
  · exact fun hk => ⟨t, b, h, e, hk⟩
/-- the items that a walk meets -/
def itK (d : Dt) (k : List Dt → Prop) : Prop := match d with | .lst l => k l | .tup l => k l | .str x => k (signs x) | _ => False
theorem wIt_eq (w : WE) : wIt w = fun δ k e => w δ (fun d => itK d k) e := rfl
theorem itK_lst (l : List Dt) (k : List Dt → Prop) : itK (.lst l) k = k l := Eq.trans rfl rfl
theorem itK_tup (l : List Dt) (k : List Dt → Prop) : itK (.tup l) k = k l := Eq.trans rfl rfl
theorem itK_str (l : Str) (k : List Dt → Prop) : itK (.str l) k = k (signs l) := Eq.trans rfl rfl
theorem itK_seq {d : Dt} {l : List Dt} (h : seqD d = some l) (k : List Dt → Prop) : itK d k = k l := by
  rcases seqD_of h with rfl | rfl <;> rfl
theorem seqD_lst (l : List Dt) : seqD (.lst l) = some l := rfl
theorem seqD_tup (l : List Dt) : seqD (.tup l) = some l := rfl
section
variable (i j : Int) (a b : List Dt) (x y : Str) (k : Dt → Prop)
theorem gAdd_i : gAdd (.int i) (.int j) k = k (.int (i + j)) := Eq.trans rfl rfl
theorem gAdd_s : gAdd (.str x) (.str y) k = (x.length + y.length ≤ sizeLine ∧ k (.str (x ++ y))) := Eq.trans rfl rfl
theorem gAdd_l : gAdd (.lst a) (.lst b) k = (a.length + b.length ≤ sizeLine ∧ k (.lst (a ++ b))) := Eq.trans rfl rfl
theorem gAdd_t : gAdd (.tup a) (.tup b) k = (a.length + b.length ≤ sizeLine ∧ k (.tup (a ++ b))) := Eq.trans rfl rfl
theorem gCat_l : gCat (.lst a) (.lst b) k = (a.length + b.length ≤ sizeLine ∧ k (.lst (a ++ b))) := Eq.trans rfl rfl
theorem gSub_i : gSub (.int i) (.int j) k = k (.int (i - j)) := Eq.trans rfl rfl
theorem gMul_i : gMul (.int i) (.int j) k = (CMulW i j ∧ k (.int (i * j))) := Eq.trans rfl rfl
theorem gMul_l : gMul (.lst a) (.int j) k = (a.length ≤ 1000 ∧ -1000 ≤ j ∧ j ≤ 1000 ∧ k (.lst (List.replicate j.toNat a).flatten)) := Eq.trans rfl rfl
theorem gMul_t : gMul (.tup a) (.int j) k = (a ≠ [] ∧ a.length ≤ 1000 ∧ 2 ≤ j ∧ j ≤ 1000 ∧ k (.tup (List.replicate j.toNat a).flatten)) := Eq.trans rfl rfl
theorem gFdiv_i : gFdiv (.int i) (.int j) k = (CDivW i j ∧ k (.int (i / j))) := Eq.trans rfl rfl
theorem gMod_i : gMod (.int i) (.int j) k = (0 < j ∧ k (.int (i % j))) := Eq.trans rfl rfl
theorem gPow_i : gPow (.int i) (.int j) k = (CPow i j ∧ k (.int (i ^ j.toNat))) := Eq.trans rfl rfl
theorem gLt_i : gLt (.int i) (.int j) k = k (.bl (decide (i < j))) := Eq.trans rfl rfl
theorem gLe_i : gLe (.int i) (.int j) k = k (.bl (decide (i ≤ j))) := Eq.trans rfl rfl
theorem gGt_i : gGt (.int i) (.int j) k = k (.bl (decide (j < i))) := Eq.trans rfl rfl
theorem gGe_i : gGe (.int i) (.int j) k = k (.bl (decide (j ≤ i))) := Eq.trans rfl rfl
theorem gLen_l : gLen [.lst a] k = k (.int a.length) := Eq.trans rfl rfl
theorem gLen_t : gLen [.tup a] k = k (.int a.length) := Eq.trans rfl rfl
theorem gLen_s : gLen [.str x] k = (x.length ≤ sizeLine ∧ k (.int x.length)) := Eq.trans rfl rfl
theorem gAbs_i : gAbs [.int i] k = k (.int (if i < 0 then -i else i)) := Eq.trans rfl rfl
theorem gToInt_i : gToInt [.int i] k = k (.int i) := Eq.trans rfl rfl
theorem gToInt_b (c : Bool) : gToInt [.bl c] k = k (.int (if c then 1 else 0)) := Eq.trans rfl rfl
theorem gToBl_i : gToBl [.int i] k = k (.bl (i != 0)) := Eq.trans rfl rfl
theorem gToBl_b (c : Bool) : gToBl [.bl c] k = k (.bl c) := Eq.trans rfl rfl
theorem gToTup_l : gToTup [.lst a] k = k (.tup a) := Eq.trans rfl rfl
theorem gToTup_t : gToTup [.tup a] k = k (.tup a) := Eq.trans rfl rfl
theorem gToLst_l : gToLst [.lst a] k = k (.lst a) := Eq.trans rfl rfl
theorem gToLst_t : gToLst [.tup a] k = k (.lst a) := Eq.trans rfl rfl
theorem gMax2_i : gMax2 [.int i, .int j] k = k (.int (if j > i then j else i)) := Eq.trans rfl rfl
theorem gMin2_i : gMin2 [.int i, .int j] k = k (.int (if j < i then j else i)) := Eq.trans rfl rfl
theorem gNeg_i : gNeg (.int i) k = k (.int (-i)) := Eq.trans rfl rfl
theorem gSl_l (lo hi : Option Int) : gSl (.lst a) lo hi k = k (.lst (cutL a lo hi)) := Eq.trans rfl rfl
theorem gSl_t (lo hi : Option Int) : gSl (.tup a) lo hi k = (¬ (HT.sIx a.length 0 lo = 0 ∧ HT.sIx a.length a.length hi = a.length) ∧ k (.tup (cutL a lo hi))) := Eq.trans rfl rfl
theorem gSl_s (lo hi : Option Int) : gSl (.str x) lo hi k = (x.length ≤ sizeLine ∧ k (.str (Txt.slice x lo hi))) := Eq.trans rfl rfl
theorem gSlL_l (lo hi : Option Int) : gSlL (.lst a) lo hi k = k (.lst (cutL a lo hi)) := Eq.trans rfl rfl
theorem gRevL_l : gRevL (.lst a) k = k (.lst a.reverse) := Eq.trans rfl rfl
theorem gIx_l : gIx (.lst a) (.int i) k = ∃ d, atD a i = some d ∧ k d := Eq.trans rfl rfl
theorem gIx_t : gIx (.tup a) (.int i) k = ∃ d, atD a i = some d ∧ k d := Eq.trans rfl rfl
end
theorem rgI_len (lo : Int) (n : Nat) : (rgI lo n).length = n := by simp [rgI]
theorem rgI_at {lo : Int} {n i : Nat} {d : Dt} (h : (rgI lo n)[i]? = some d) : i < n ∧ d = .int (lo + (i : Nat)) := by
  unfold rgI at h
  obtain ⟨j, e, rfl⟩ := some_map h
  have hi : i < n := by
    have := (List.getElem?_eq_some_iff.mp e).1
    rwa [List.length_range] at this
  rw [List.getElem?_range hi] at e
  cases e
  exact ⟨hi, rfl⟩
theorem mem_ints {l : List Int} {d : Dt} (h : d ∈ l.map Dt.int) : ∃ i ∈ l, d = .int i := by
  obtain ⟨i, hi, e⟩ := List.mem_map.mp h
  exact ⟨i, hi, e.symm⟩
theorem map_of {α : Type} (f : α → Dt) {P : α → Prop} : ∀ {out : List Dt}, (∀ y ∈ out, ∃ z, y = f z ∧ P z) → ∃ zs : List α, out = zs.map f ∧ zs.length = out.length ∧ ∀ z ∈ zs, P z
  | [], _ => ⟨[], rfl, rfl, by simp⟩
  | y :: out, h => by
    obtain ⟨zs, e, l, hz⟩ := map_of f (out := out) fun y hy => h y (List.mem_cons_of_mem _ hy)
    obtain ⟨z, rfl, hp⟩ := h y List.mem_cons_self
    refine ⟨z :: zs, by rw [e, List.map_cons], by rw [List.length_cons, List.length_cons, l], fun x hx => ?_⟩
    rcases List.mem_cons.mp hx
          with rfl | hx
    · exact hp
    · exact hz x hx
/-- what each is told, place by place -/
theorem rel_mem {items out : List Dt} {R : Dt → Dt → Prop} (hl : out.length = items.length) (h : ∀ (i : Nat) (d y : Dt), items[i]? = some d → out[i]? = some y → R d y) : ∀ y ∈ out, ∃ d ∈ items, R d y := fun y hy => by
  obtain ⟨i, hi⟩ := List.getElem?_of_mem hy
  have lt := (List.getElem?_eq_some_iff.mp hi).1
  rw [hl] at lt
  exact ⟨items[i], List.getElem_mem lt, h i _ _ (List.getElem?_eq_getElem lt) hi⟩
/-- a value of each, as told -/
theorem rel_eq {α : Type} {items out : List Dt} {xs : List α} {f : α → Dt} (hl : items.length = xs.length) (ol : out.length = items.length) (hr : ∀ (i : Nat) (d y : Dt), items[i]? = some d → out[i]? = some y → ∃ q, xs[i]? = some q ∧ y = f q) : out = xs.map f := by
  refine List.ext_getElem? fun i => ?_
  rw [List.getElem?_map]
  cases hy : out[i]? with
  | none => rw [List.getElem?_eq_none_iff.mpr (by have := List.getElem?_eq_none_iff.mp hy; omega)]; rfl
  | some y =>
    have lt := (List.getElem?_eq_some_iff.mp hy).1
    obtain ⟨q, hq, rfl⟩ := hr i _ y (List.getElem?_eq_getElem (by omega)) hy
    rw [hq]; rfl
theorem atD_last {α : Type} {l : List α} (x : α) : atD (l ++ [x]) (-1) = some x := by
  unfold atD
  rw [if_neg (by omega), if_pos (by rw [List.length_append, List.length_singleton]; omega), List.length_append, List.length_singleton]
  rw [show (-1 + ((l.length + 1 : Nat) : Int)).toNat = l.length by omega]
  simp
theorem cut_last {α : Type} (l : List α) (x : α) : cutL (l ++ [x]) none (some (-1)) = l := by
  unfold cutL
  have e : HT.sIx (l ++ [x]).length (l ++ [x]).length (some (-1)) = l.length := by
    show (if (-1 : Int) < 0 then ((-1) + ((l ++ [x]).length : Int)).toNat else min (-1 : Int).toNat (l ++ [x]).length) = l.length
    rw [if_pos (by omega), List.length_append, List.length_singleton]
    omega
  rw [e, show HT.sIx (l ++ [x]).length 0 none = 0 from rfl]
  simp
theorem cons_last {α : Type} {l : List α} (h : l ≠ []) : ∃ r x, l = r ++ [x] := ⟨_, _, (List.dropLast_concat_getLast h).symm⟩
theorem a_itK (w : WE) (δ : De) (k : List Dt → Prop) (e : Er → Prop) : wIt w δ k e = w δ (fun d => itK d k) e := by rw [wIt_eq]
theorem gIsN_n (k : Dt → Prop) : gIsN .non .non k = k (.bl true) := Eq.trans rfl rfl
theorem gIsN_b (b : Bool) (k : Dt → Prop) : gIsN (.bl b) .non k = k (.bl false) := Eq.trans rfl rfl
theorem gIsN_i (b : Int) (k : Dt → Prop) : gIsN (.int b) .non k = k (.bl false) := Eq.trans rfl rfl
theorem gIsN_s (b : Str) (k : Dt → Prop) : gIsN (.str b) .non k = k (.bl false) := Eq.trans rfl rfl
theorem gIsN_l (b : List Dt) (k : Dt → Prop) : gIsN (.lst b) .non k = k (.bl false) := Eq.trans rfl rfl
theorem gIsN_t (b : List Dt) (k : Dt → Prop) : gIsN (.tup b) .non k = k (.bl false) := Eq.trans rfl rfl
theorem gNotN_n (k : Dt → Prop) : gNotN .non .non k = k (.bl false) := Eq.trans rfl rfl
theorem gNotN_b (b : Bool) (k : Dt → Prop) : gNotN (.bl b) .non k = k (.bl true) := Eq.trans rfl rfl
theorem gNotN_i (b : Int) (k : Dt → Prop) : gNotN (.int b) .non k = k (.bl true) := Eq.trans rfl rfl
theorem gNotN_s (b : Str) (k : Dt → Prop) : gNotN (.str b) .non k = k (.bl true) := Eq.trans rfl rfl
theorem gNotN_l (b : List Dt) (k : Dt → Prop) : gNotN (.lst b) .non k = k (.bl true) := Eq.trans rfl rfl
theorem gNotN_t (b : List Dt) (k : Dt → Prop) : gNotN (.tup b) .non k = k (.bl true) := Eq.trans rfl rfl
end LW

set_option Elab.async false
set_option linter.all false
set_option maxRecDepth 100000
set_option maxHeartbeats 4000100
/-! what data shows as: that it may be shown, how long it is, which signs it has -/
namespace LW
open L2 PySem.Spec PyProof.Rows PySem
def okS (x : Str) : Prop := ∀ c ∈ x.cps.toList, c < 0x110000
theorem okS.ok {x : Str} (h : okS x) : PyData.strOk x = true := by
  unfold PyData.strOk
  rw [Array.all_eq_true_iff_forall_mem]
  intro c hc
  exact decide_eq_true (h c (Array.mem_toList_iff.mpr hc))
theorem okS.of {x : Str} (h : PyData.strOk x = true) : okS x := fun c hc => by
  have := (Array.all_eq_true_iff_forall_mem.mp h) c (Array.mem_toList_iff.mp hc)
  simpa using this
theorem okS_char (c : Char) : c.toNat < 0x110000 := by
  have h := c.valid
  unfold UInt32.isValidChar Nat.isValidChar at h
  show c.val.toNat < _
  omega
theorem okS_s (s : String) : okS (Str.ofString s) := fun c hc => by
  rw [Str.ofString_eq_toList] at hc
  obtain ⟨x, _, rfl⟩ := List.mem_map.mp (by simpa using hc : c ∈ s.toList.map Char.toNat)
  exact okS_char x
theorem okS.app {x y : Str} (h : okS x) (g : okS y) : okS (x ++ y) := fun c hc => by
  have : c ∈ x.cps.toList ++ y.cps.toList := by
    have e : (x ++ y).cps = x.cps ++ y.cps := rfl
    rw [e, Array.toList_append] at hc
    exact hc
  rcases List.mem_append.mp this with z | z
  · exact h c z
  · exact g c z
theorem okS_nil : okS Str.empty := fun c hc => by simp [Str.empty] at hc
theorem okS_join {s : Str} (hs : okS s) : ∀ {l : List Str}, (∀ x ∈ l, okS x) → okS (Str.join s l)
  | [], _ => okS_nil
  | [x], h => h x (by simp)
  | x :: y :: r, h => ((h x (by simp)).app hs).app (okS_join hs (l := y :: r) fun z hz => h z (List.mem_cons_of_mem _ hz))
theorem okS_text : ∀ {l : List Str} {k : Nat} {acc : Str}, okS acc → (∀ x ∈ l, okS x) → okS (textFrom k acc l)
  | [], _, _, h, _ => h
  | x :: r, k, acc, h, g => okS_text (l := r) ((h.app (by split <;> exact okS_s _)).app (g x (by simp))) fun z hz => g z (List.mem_cons_of_mem _ hz)
theorem okS_list {l : List Str} (h : ∀ x ∈ l, okS x) : okS (listText l) := (okS_text (okS_s _) h).app (okS_s _)
theorem okS_tup {l : List Str} (h : ∀ x ∈ l, okS x) : okS (tupleText l) := ((okS_s _).app (okS_join (okS_s _) h)).app (by split <;> exact okS_s _)
theorem okC_repr {q c : Nat} (hc : c < 0x110000) : ∀ x ∈ Builtin.Str.reprChar q c, x < 0x110000 := by
  intro x hx
  have hex : ∀ n : Nat, ∀ y ∈ List.replicate (n - ((Nat.toDigits 16 c).map Char.toNat).length) 48 ++ (Nat.toDigits 16 c).map Char.toNat, y < 0x110000 := fun n y hy => by
    rcases List.mem_append.mp hy with z | z
    · rw [(List.mem_replicate.mp z).2]; decide
    · obtain ⟨d, _, rfl⟩ := List.mem_map.mp z
      exact okS_char d
  unfold Builtin.Str.reprChar at hx
  split at hx
  · simp at hx; omega
  split at hx
  · simp at hx; omega
  split at hx
  · simp at hx; omega
  split at hx
  · simp at hx; omega
  split at hx
  · simp at hx; omega
  split at hx
  · rcases List.mem_append.mp hx with z | z
    · simp at z; omega
    · exact hex 2 x z
  split at hx
  · rcases List.mem_append.mp hx with z | z
    · simp at z; omega
    · exact hex 4 x z
  · rcases List.mem_append.mp hx with z | z
    · simp at z; omega
    · exact hex 8 x z
theorem okS_repr {x : Str} (h : okS x) : okS (reprText x) := by
  have hq : reprQuote x < 0x110000 := by unfold reprQuote; split <;> decide
  have key : ∀ (l : List Nat) (acc : Array Nat), (∀ c ∈ l, c < 0x110000) → (∀ c ∈ acc.toList, c < 0x110000) → ∀ c ∈ (l.foldl (fun out c => out ++ (Builtin.Str.reprChar (reprQuote x) c).toArray) acc).toList, c < 0x110000 := by
    intro l
    induction l with
    | nil => intro acc _ h2 c hc; exact h2 c hc
    | cons a l ih =>
      intro acc h1 h2 c hc
      refine ih _ (fun c hc => h1 c (List.mem_cons_of_mem _ hc)) (fun c hc => ?_) c hc
      rw [Array.toList_append] at hc
      rcases List.mem_append.mp hc with z | z
      · exact h2 c z
      · exact okC_repr (h1 a (by simp)) c (by simpa using z)
  intro c hc
  unfold reprText at hc
  simp only [Array.toList_push, List.mem_append, List.mem_singleton] at hc
  rcases hc with hc | hc
  · rw [← Array.foldl_toList] at hc
    exact key _ _ h (fun c hc => by simp at hc; omega) c hc
  · omega
mutual
/-- data that may be shown: ints not too long, texts of signs, no dicts -/
def tame (B : Nat) : PyData → Bool
  | .none | .bool _ => true
  | .int i => decide (i.natAbs.log2 + 3 ≤ B)
  | .str x => PyData.strOk x
  | .list xs | .tuple xs => tames B xs
  | .dict _ => false
def tames (B : Nat) : List PyData → Bool
  | [] => true
  | x :: xs => tame B x && tames B xs
end
theorem int_lenB {i : Int} {B : Nat} (h : i.natAbs.log2 + 3 ≤ B) : (PyData.shown (.int i)).length ≤ B := by
  have h2 : i.natAbs < 2 ^ (i.natAbs.log2 + 1) := Nat.lt_log2_self
  show (Str.ofString (toString i)).length ≤ B
  have e := int_text_length_le (a := i) (k := i.natAbs.log2 + 1) (by omega) (Nat.lt_succ_self _)
  rw [PySem.ofString_length]
  omega
variable {B : Nat}
mutual
theorem tame_all (hB : B ≤ 1900) : ∀ {d : PyData}, tame B d = true → PyData.showable d = true ∧ d.hasDict = false ∧ d.canLay0 = true ∧ d.leavesShort B = true ∧ okS d.shown
  | .none, _ => ⟨rfl, rfl, rfl, rfl, okS_s _⟩
  | .bool b, _ => ⟨rfl, rfl, rfl, rfl, by cases b <;> exact okS_s _⟩
  | .int i, h => by
    have h := of_decide_eq_true (show decide (i.natAbs.log2 + 3 ≤ B) = true by simpa [tame] using h)
    exact ⟨decide_eq_true (by omega), rfl, rfl, decide_eq_true (int_lenB h), okS_s _⟩
  | .str x, h => ⟨rfl, rfl, h, by
      have h1 := okS.of h
      simp only [PyData.leavesShort, List.all_eq_true, decide_eq_true_eq]
      exact fun c hc => Nat.lt_trans (h1 c hc) (by decide), okS_repr (okS.of h)⟩
  | .list xs, h => by
    obtain ⟨a, b, c, d, e⟩ := tames_all hB (xs := xs) (by simpa [tame] using h)
    refine ⟨by simpa [PyData.showable] using a, by simpa [PyData.hasDict] using b, by simpa [PyData.canLay0] using c, by simpa [PyData.leavesShort] using d, ?_⟩
    rw [PyData.shown]
    exact okS_list e
  | .tuple xs, h => by
    obtain ⟨a, b, c, d, e⟩ := tames_all hB (xs := xs) (by simpa [tame] using h)
    refine ⟨by simpa [PyData.showable] using a, by simpa [PyData.hasDict] using b, by simpa [PyData.canLay0] using c, by simpa [PyData.leavesShort] using d, ?_⟩
    rw [PyData.shown]
    exact okS_tup e
  | .dict _, h => by simp [tame] at h
theorem tames_all (hB : B ≤ 1900) : ∀ {xs : List PyData}, tames B xs = true → PyData.showableAll xs = true ∧ PyData.hasDictAll xs = false ∧ PyData.canLayAll0 xs = true ∧ PyData.leavesShortAll B xs = true ∧ ∀ x ∈ PyData.shownAll xs, okS x
  | [], _ => ⟨rfl, rfl, rfl, rfl, fun x hx => by simp [PyData.shownAll] at hx⟩
  | x :: xs, h => by
    simp only [tames, Bool.and_eq_true] at h
    obtain ⟨a, b, c, d, e⟩ := tame_all hB (d := x) h.1
    obtain ⟨a2, b2, c2, d2, e2⟩ := tames_all hB (xs := xs) h.2
    refine ⟨by simp [PyData.showableAll, a, a2], by simp [PyData.hasDictAll, b, b2], by simp [PyData.canLayAll0, c, c2], by simp [PyData.leavesShortAll, d, d2], fun z hz => ?_⟩
    rw [PyData.shownAll] at hz
    rcases List.mem_cons.mp hz
          with rfl | hz
    · exact e
    · exact e2 z hz
end
theorem tame_fit (h8 : 8 ≤ B) (hB : B ≤ 1900) {d : PyData} (h : tame B d = true) (hw : (B + 2) * d.weight + B ≤ 16777216) : d.shown.length ≤ sizeLine := by
  have := PyData.shown_le B h8 d (tame_all hB h).2.2.2.1
  rw [sizeLine_eq]
  omega
/-- what plain data shows as -/
structure Shw (d : Dt) (p : PyData) : Prop where
  py : toPy d = some p
  ex : ∃ B, 8 ≤ B ∧ B ≤ 1900 ∧ tame B p = true ∧ (B + 2) * p.weight + B ≤ 16777216
  dep : p.depth ≤ 60
theorem gRepr_of {d : Dt} {p : PyData} (h : Shw d p) (k : Dt → Prop) : gRepr [d] k = k (.str p.shown) := by
  obtain ⟨B, h8, hB, ht, hw⟩ := h.ex
  obtain ⟨a, b, _⟩ := tame_all hB ht
  apply propext
  constructor
  · rintro ⟨q, e, _, _, _, _, hk⟩
    cases h.py.symm.trans e
    exact hk
  · intro hk
    exact ⟨p, h.py, a, b, h.dep, tame_fit h8 hB ht hw, hk⟩
theorem Shw.ok {d : Dt} {p : PyData} (h : Shw d p) : okS p.shown := by
  obtain ⟨B, h8, hB, ht, hw⟩ := h.ex
  exact (tame_all hB ht).2.2.2.2
theorem Shw.shaped {d : Dt} {p : PyData} (h : Shw d p) : SeqAt.shaped p = true := by
  obtain ⟨B, h8, hB, ht, hw⟩ := h.ex
  exact Bool.and_eq_true_iff.mpr ⟨(tame_all hB ht).2.2.1, decide_eq_true (Nat.le_trans h.dep (by decide))⟩
theorem gNe_same {x : Dt} {p : PyData} (h : Shw x p) (k : Dt → Prop) : gNe x x k = k (.bl false) := by
  obtain ⟨B, h8, hB, ht, hw⟩ := h.ex
  rw [gNe_of h.py h.py h.shaped h.shaped, eqv_refl _ (tame_all hB ht).2.1]
  rfl
theorem gEq_same {x : Dt} {p : PyData} (h : Shw x p) (k : Dt → Prop) : gEq x x k = k (.bl true) := by
  obtain ⟨B, h8, hB, ht, hw⟩ := h.ex
  rw [gEq_of h.py h.py h.shaped h.shaped, eqv_refl _ (tame_all hB ht).2.1]
theorem Shw.dct {d : Dt} {p : PyData} (h : Shw d p) : p.hasDict = false := by
  obtain ⟨B, h8, hB, ht, hw⟩ := h.ex
  exact (tame_all hB ht).2.1
/-- what plain data shows as, by its parts: what it is made of, how much it is, how deep -/
def Shn (B W D : Nat) (d : Dt) : Prop := ∃ p, toPy d = some p ∧ tame B p = true ∧ p.weight ≤ W ∧ p.depth ≤ D
theorem Shn.shw {W D : Nat} {d : Dt} (h : Shn B W D d) (h8 : 8 ≤ B) (hB : B ≤ 1900) (hw : (B + 2) * W + B ≤ 16777216) (hD : D ≤ 60) : ∃ p, Shw d p := by
  obtain ⟨p, e, t, w, q⟩ := h
  exact ⟨p, e, ⟨B, h8, hB, t, Nat.le_trans (Nat.add_le_add_right (Nat.mul_le_mul_left _ w) _) hw⟩, Nat.le_trans q hD⟩
theorem Shn.mono {W D W' D' : Nat} {d : Dt} (h : Shn B W D d) (h1 : W ≤ W') (h2 : D ≤ D') : Shn B W' D' d := by
  obtain ⟨p, e, t, w, q⟩ := h
  exact ⟨p, e, t, Nat.le_trans w h1, Nat.le_trans q h2⟩
theorem Shn.non : Shn B 0 0 .non := ⟨.none, rfl, by simp [tame], Nat.le_refl _, Nat.le_refl _⟩
theorem Shn.bl (b : Bool) : Shn B 0 0 (.bl b) := ⟨.bool b, rfl, by simp [tame], Nat.le_refl _, Nat.le_refl _⟩
theorem Shn.int {i : Int} {k : Nat} (h : i.natAbs < 2 ^ k) (hk : k + 3 ≤ B) : Shn B (k + 1) 0 (.int i) := by
  have l : i.natAbs.log2 ≤ k := by
    by_cases z : i.natAbs = 0
    · rw [z]; simp
    · exact Nat.le_of_lt ((Nat.log2_lt z).mpr h)
  refine ⟨.int i, rfl, ?_, ?_, Nat.le_refl _⟩
  · simp only [tame, decide_eq_true_eq]
    omega
  · rw [PyData.weight]
    split <;> omega
theorem Shn.str {x : Str} (h : okS x) : Shn B x.cps.size 0 (.str x) := ⟨.str x, rfl, by simpa [tame] using h.ok, by rw [PyData.weight]; exact Nat.le_refl _, Nat.le_refl _⟩
theorem Shn.all {W D : Nat} : ∀ {l : List Dt}, (∀ d ∈ l, Shn B W D d) → ∃ ps, toPys l = some ps ∧ tames B ps = true ∧ PyData.weightAll ps ≤ l.length * (W + 1) ∧ PyData.depthAll ps ≤ D
  | [], _ => ⟨[], by rw [toPys], by rw [tames], by rw [PyData.weightAll]; exact Nat.zero_le _, by rw [PyData.depthAll]; exact Nat.zero_le _⟩
  | d :: l, h => by
    obtain ⟨p, e, t, w, q⟩ := h d (by simp)
    obtain ⟨ps, e2, t2, w2, q2⟩ := Shn.all fun x hx => h x (List.mem_cons_of_mem _ hx)
    refine ⟨p :: ps, by rw [toPys, e, e2], by rw [tames, t, t2]; rfl, ?_, ?_⟩
    · rw [PyData.weightAll, List.length_cons, Nat.succ_mul]
      omega
    · rw [PyData.depthAll]
      omega
theorem Shn.tup {W D : Nat} {l : List Dt} (h : ∀ d ∈ l, Shn B W D d) : Shn B (l.length * (W + 1)) (D + 1) (.tup l) := by
  obtain ⟨ps, e, t, w, q⟩ := Shn.all h
  exact ⟨.tuple ps, by rw [toPy, e]; rfl, by rw [tame]; exact t, by rw [PyData.weight]; exact w, by rw [PyData.depth]; omega⟩
theorem Shn.lst {W D : Nat} {l : List Dt} (h : ∀ d ∈ l, Shn B W D d) : Shn B (l.length * (W + 1)) (D + 1) (.lst l) := by
  obtain ⟨ps, e, t, w, q⟩ := Shn.all h
  exact ⟨.list ps, by rw [toPy, e]; rfl, by rw [tame]; exact t, by rw [PyData.weight]; exact w, by rw [PyData.depth]; omega⟩
/-- two texts that are the same -/
theorem gNe_strs {x : Str} (h : okS x) (k : Dt → Prop) : gNe (.str x) (.str x) k = k (.bl false) := by rw [gNe_str h.ok h.ok, decide_eq_true rfl]; rfl
theorem gEq_strs {x : Str} (h : okS x) (k : Dt → Prop) : gEq (.str x) (.str x) k = k (.bl true) := by rw [gEq_str h.ok h.ok, decide_eq_true rfl]
theorem gNe_pairs {x y : Str} (h : okS x) (g : okS y) (k : Dt → Prop) : gNe (.tup [.str x, .str y]) (.tup [.str x, .str y]) k = k (.bl false) := by
  have sh : SeqAt.shaped (.tuple [.str x, .str y]) = true := by
    simp [SeqAt.shaped, PyData.canLay0, PyData.canLayAll0, h.ok, g.ok, PyData.depth, PyData.depthAll]
  rw [gNe_of (p := .tuple [.str x, .str y]) (q := .tuple [.str x, .str y]) rfl rfl sh sh, eqv_refl _ (by simp [PyData.hasDict, PyData.hasDictAll])]
  rfl
theorem okS_codes {l : List Nat} (h : ∀ c ∈ l, c < 200) : okS (SX.S l) := fun c hc => by
  have := h c (by simpa using hc)
  omega
end LW

set_option Elab.async false
set_option linter.all false
set_option maxRecDepth 100000
set_option maxHeartbeats 4000100
set_option exponentiation.threshold 9000
namespace LW
open L2 PySem.Spec PyProof.Rows PySem
def topS (i : Nat) : Stmt := PySem.Challenge.pw_wholeshares_k06_whole_fairness_by_its_co.main.body.getD i (.Pass ⟨0, 0, 0, 0⟩)
abbrev s_is_int : Stmt := topS 13
theorem sc_is_int : FnScope ["value"] ["value"] (defScope s_is_int) := ⟨rfl, rfl, rfl, by decide +kernel, rfl, by decide +kernel, by decide +kernel⟩
abbrev s_is_number : Stmt := topS 15
theorem sc_is_number : FnScope ["value"] ["value"] (defScope s_is_number) := ⟨rfl, rfl, rfl, by decide +kernel, rfl, by decide +kernel, by decide +kernel⟩
abbrev s_as_pair : Stmt := topS 17
theorem sc_as_pair : FnScope ["number"] ["number"] (defScope s_as_pair) := ⟨rfl, rfl, rfl, by decide +kernel, rfl, by decide +kernel, by decide +kernel⟩
abbrev s_lowest : Stmt := topS 18
theorem sc_lowest : FnScope ["number", "top", "bottom", "common"] ["number"] (defScope s_lowest) := ⟨rfl, rfl, rfl, by decide +kernel, rfl, by decide +kernel, by decide +kernel⟩
abbrev s__int_text : Stmt := topS 26
theorem sc__int_text : FnScope ["integer", "blocks", "rest"] ["integer"] (defScope s__int_text) := ⟨rfl, rfl, rfl, by decide +kernel, rfl, by decide +kernel, by decide +kernel⟩
abbrev s__read_int : Stmt := topS 27
theorem sc__read_int : FnScope ["digits", "start", "integer", "at"] ["digits"] (defScope s__read_int) := ⟨rfl, rfl, rfl, by decide +kernel, rfl, by decide +kernel, by decide +kernel⟩
abbrev s_is_digits : Stmt := topS 28
theorem sc_is_digits : FnScope ["text"] ["text"] (defScope s_is_digits) := ⟨rfl, rfl, rfl, by decide +kernel, rfl, by decide +kernel, by decide +kernel⟩
abbrev s_number_text : Stmt := topS 29
theorem sc_number_text : FnScope ["pair"] ["pair"] (defScope s_number_text) := ⟨rfl, rfl, rfl, by decide +kernel, rfl, by decide +kernel, by decide +kernel⟩
abbrev s_read_number : Stmt := topS 30
theorem sc_read_number : FnScope ["text", "parts", "part", "number", "pair"] ["text"] (defScope s_read_number) := ⟨rfl, rfl, rfl, by decide +kernel, rfl, by decide +kernel, by decide +kernel⟩
abbrev s_is_less : Stmt := topS 19
theorem sc_is_less : FnScope ["pair", "other_pair"] ["pair", "other_pair"] (defScope s_is_less) := ⟨rfl, rfl, rfl, by decide +kernel, rfl, by decide +kernel, by decide +kernel⟩
abbrev s__plain_mark : Stmt := topS 33
theorem sc__plain_mark : FnScope ["offset", "number"] ["offset", "number"] (defScope s__plain_mark) := ⟨rfl, rfl, rfl, by decide +kernel, rfl, by decide +kernel, by decide +kernel⟩
abbrev s__is_offset : Stmt := topS 32
theorem sc__is_offset : FnScope ["value", "top", "bottom"] ["value"] (defScope s__is_offset) := ⟨rfl, rfl, rfl, by decide +kernel, rfl, by decide +kernel, by decide +kernel⟩
abbrev s__is_next_mark : Stmt := topS 34
theorem sc__is_next_mark : FnScope ["element", "marks", "mark"] ["element", "marks"] (defScope s__is_next_mark) := ⟨rfl, rfl, rfl, by decide +kernel, rfl, by decide +kernel, by decide +kernel⟩
abbrev s_is_count : Stmt := topS 14
theorem sc_is_count : FnScope ["value"] ["value"] (defScope s_is_count) := ⟨rfl, rfl, rfl, by decide +kernel, rfl, by decide +kernel, by decide +kernel⟩
abbrev s__lowest_head : Stmt := topS 35
theorem sc__lowest_head : FnScope ["offset", "head", "marks", "index", "element"] ["offset", "head"] (defScope s__lowest_head) := ⟨rfl, rfl, rfl, by decide +kernel, rfl, by decide +kernel, by decide +kernel⟩
abbrev s_common_bottom : Stmt := topS 20
theorem sc_common_bottom : FnScope ["pairs", "common", "_", "bottom"] ["pairs"] (defScope s_common_bottom) := ⟨rfl, rfl, rfl, by decide +kernel, rfl, by decide +kernel, by decide +kernel⟩
abbrev s_Rule_mark : Stmt := inClass (topS 36) 2
theorem sc_Rule_mark : FnScope ["self", "number"] ["self", "number"] (defScope s_Rule_mark) := ⟨rfl, rfl, rfl, by decide +kernel, rfl, by decide +kernel, by decide +kernel⟩
abbrev s_Rule___init__ : Stmt := inClass (topS 36) 0
theorem sc_Rule___init__ : FnScope ["self", "offset", "head", "top", "bottom", "number"] ["self", "offset", "head"] (defScope s_Rule___init__) := ⟨rfl, rfl, rfl, by decide +kernel, rfl, by decide +kernel, by decide +kernel⟩
abbrev s_Rule_read : Stmt := inClass (topS 36) 1
theorem sc_Rule_read : FnScope ["text", "words", "offset", "head", "word"] ["text"] (defScope s_Rule_read) := ⟨rfl, rfl, rfl, by decide +kernel, rfl, by decide +kernel, by decide +kernel⟩
/-- what the top says of the program's own names -/
structure Tx (K : PySem.W.Frag) (mg : Str → Option Value) (c : Addr) : Prop where
  cl : Cls K c
  nO : NoAttr K c "offset"
  nH : NoAttr K c "head"
  nS : NoAttr K c "_start"
  nU : NoAttr K c "unit"
  nW : NoAttr K c "_whole_head"
  nX : NoAttr K c "whole_offset"
  g_Rule : mg "Rule" = some (.ref c)
  g_gcd : mg "gcd" = some (.builtin "math.gcd")
  g_lcm : mg "lcm" = some (.builtin "math.lcm")
  g_BLOCK : ∃ t, mg "BLOCK" = some (.int (10 ^ 60) t)
  g_BLOCK_DIGITS : ∃ t, mg "BLOCK_DIGITS" = some (.int 60 t)
  g_MOST_HEAD : ∃ t, mg "MOST_HEAD" = some (.int 8 t)
local macro_rules | `(tactic| walk_at "len") => `(tactic| skip)
/-! ### numbers -/
def encQ (q : Int × Int) : PyData := .tuple [.int q.1, .int q.2]
/-- lowest terms -/
def lowQ (t b : Int) : Int × Int := (t / ((Nat.gcd t.natAbs b.natAbs : Nat) : Int), b / ((Nat.gcd t.natAbs b.natAbs : Nat) : Int))
def smallQ (q : Int × Int) : Prop := q.1.natAbs < 2 ^ 8000 ∧ q.2.natAbs < 2 ^ 8000
theorem iss_Q {K : PySem.W.Frag} {A : List Addr} {H : Hp} (q : Int × Int) : Iss K A H [.int q.1, .int q.2] [.int q.1, .int q.2] := DAll.cons (.int _) (DAll.cons (.int _) DAll.nil)
theorem gcd_pos {t b : Int} (h : 0 < b) : 0 < Nat.gcd t.natAbs b.natAbs := Nat.gcd_pos_of_pos_right _ (by omega)
theorem gcd_le {t b : Int} (h : 0 < b) : Nat.gcd t.natAbs b.natAbs ≤ b.natAbs := Nat.gcd_le_right _ (by omega)
/-- an int or a pair, in lowest terms -/
def exactD : PyData → Option (Int × Int)
  | .int i => some (i, 1)
  | .tuple [.int a, .int b] => some (lowQ a b)
  | _ => none
def okQ (q : Int × Int) : Prop := 0 < q.2 ∧ q.2.natAbs < 2 ^ 8000

/-! ### numbers and rules as texts -/
open SX in
def qL (q : Int × Int) : List Nat := if q.2 = 1 then TL.numL q.1.toNat else TL.numL q.1.toNat ++ 47 :: TL.numL q.2.toNat
/-- a number whose parts are not negative and not long -/
structure OkW (q : Int × Int) : Prop where
  a : 0 ≤ q.1
  b : 0 < q.2
  a2 : q.1 < 10 ^ 50
  b2 : q.2 < 10 ^ 50
theorem numL_50 {i : Int} (h0 : 0 ≤ i) (h : i < 10 ^ 50) : (TL.numL i.toNat).length ≤ 50 := TL.numL_len (by decide) (by omega)
theorem toS {i : Int} (h : 0 ≤ i) : (Str.ofString (toString i)) = SX.S (TL.numL i.toNat) := by
  have e : i = ((i.toNat : Nat) : Int) := by omega
  rw [← SX.num_S, ← e]
theorem log2_50 {i : Int} (h0 : 0 ≤ i) (h : i < 10 ^ 50) : i.natAbs.log2 < 1920 := by
  have : i.natAbs < 2 ^ 200 := by omega
  exact Nat.lt_of_lt_of_le (PySem.Flt.log2_lt_of (by decide) this) (by decide)
theorem qL_len {q : Int × Int} (h : OkW q) : (qL q).length ≤ 101 := by
  have l1 := numL_50 h.a h.a2
  have l2 := numL_50 (Int.le_of_lt h.b) h.b2
  unfold qL
  split
  · omega
  · rw [List.length_append, List.length_cons]; omega

/-! ### the program: numbers -/
def isNumD : PyData → Bool
  | .int _ => true
  | .tuple [.int _, .int q] => decide (q ≥ 1)
  | _ => false
theorem numD_len : ∀ ds : List PyData, ds.length ≠ 2 → isNumD (.tuple ds) = false
  | [], _ => rfl
  | [.none], _ | [.bool _], _ | [.int _], _ | [.str _], _ | [.list _], _ | [.tuple _], _ | [.dict _], _ => rfl
  | [_, _], h => absurd rfl h
  | x :: y :: z :: r, _ => by
    cases x <;> first | rfl | (cases y <;> rfl)
theorem enc_num {q : Int × Int} (h : 0 < q.2) : isNumD (encQ q) = true := decide_eq_true (show q.2 ≥ 1 by omega)
section
variable {P : Program} {w : World} {K : PySem.W.Frag} {mg : Str → Option Value} {base : Heap} {c : Addr}
def sp_is_int (K : PySem.W.Frag) (c : Addr) : Sp := fun vs H Q _ => ∃ (v : V) (d : PyData), vs = [v] ∧ D K H v d ∧ Q (.bl (isIntD d)) H
theorem cal_is_int (B : Bl mg) (DD : OwnDef K mg "is_int" s_is_int)   : Cal P w K mg base 1 "is_int" (sp_is_int K c) [] := by
  obtain ⟨f, fd, F, hm⟩ := DD.ex
  refine ⟨f, fd, ["value"], [], F.ok sc_is_int (fun vs H Q E h => ?len) (fun cdv A outer s H vs Q E hr h => ?run), hm, F.kp, F.binds (fun _ _ _ _ _ _ us hl => match us, hl with | [_], _ => rfl), .nil⟩
  case len => first | (obtain ⟨_, rfl, _⟩ := h; rfl) | (obtain ⟨_, _, rfl, _⟩ := h; rfl) | (obtain ⟨_, _, _, rfl, _⟩ := h; rfl) | (obtain ⟨_, _, _, _, rfl, _⟩ := h; rfl) | (obtain ⟨_, _, _, _, _, rfl, _⟩ := h; rfl) | (obtain ⟨_, _, _, _, _, _, rfl, _⟩ := h; rfl) | (obtain ⟨_, _, _, _, _, _, _, rfl, _⟩ := h; rfl) | (obtain ⟨_, _, _, _, _, _, _, _, rfl, _⟩ := h; rfl) | (obtain ⟨_, _, _, _, _, _, _, _, _, rfl, _⟩ := h; rfl) | (obtain ⟨_, _, _, _, _, _, _, _, _, _, rfl, _⟩ := h; rfl) | (obtain ⟨_, _, _, _, _, _, _, _, _, _, _, rfl, _⟩ := h; rfl) | (obtain ⟨_, _, _, _, _, _, _, _, _, _, _, _, rfl, _⟩ := h; rfl) | (obtain ⟨_, _, _, _, _, _, _, _, _, _, _, _, _, rfl, _⟩ := h; rfl) | (obtain ⟨_, _, _, _, _, _, _, _, _, _, _, _, _, _, rfl, _⟩ := h; rfl)
  case run =>
    obtain ⟨v, d, rfl, hv, k⟩ := h
    refine ⟨_, (pss_one (ps_ret (pe_and (pe_callB call_isi (by rfl) B.isinstance (by decide +kernel) (pa_cons (pv 0) (pa_cons (pe_bltn (v := .ty "int") (by rfl) B.int (by decide +kernel) rfl) pa_nil))) (pe_one (pe_not (pe_callB call_isi (by rfl) B.isinstance (by decide +kernel) (pa_cons (pv 0) (pa_cons (pe_bltn (v := .ty "bool") (by rfl) B.bool (by decide +kernel) rfl) pa_nil)))))))), ?_⟩
    refine ⟨_, rfl, _, _, _, _, _, rfl, .ty _, hv.ty, kit_ty (kit_int _), _, rfl, ite2 (fun e => ?_) (fun e => ?_)⟩
    · refine ⟨_, rfl, _, _, _, _, _, rfl, .ty _, hv.ty, kit_ty (kit_bool _), _, rfl, ?_⟩
      have z : (!isBoolD d) = isIntD d := by cases d <;> first | rfl | (simp [isIntD, isBoolD] at e)
      rw [z]
      exact k
    · have z : isIntD d = false := by
        cases q : isIntD d with
        | false => rfl
        | true => rw [q] at e; exact absurd rfl e
      rw [z] at k
      exact k
def sp_is_number (K : PySem.W.Frag) (c : Addr) : Sp := fun vs H Q _ => ∃ (v : V) (d : PyData), vs = [v] ∧ D K H v d ∧ Q (.bl (isNumD d)) H
theorem cal_is_number (B : Bl mg) (DD : OwnDef K mg "is_number" s_is_number) (C_is_int : Cal P w K mg base 1 "is_int" (sp_is_int K c) [])  : Cal P w K mg base 2 "is_number" (sp_is_number K c) [] := by
  obtain ⟨f, fd, F, hm⟩ := DD.ex
  refine ⟨f, fd, ["value"], [], F.ok sc_is_number (fun vs H Q E h => ?len) (fun cdv A outer s H vs Q E hr h => ?run), hm, F.kp, F.binds (fun _ _ _ _ _ _ us hl => match us, hl with | [_], _ => rfl), .nil⟩
  case len => first | (obtain ⟨_, rfl, _⟩ := h; rfl) | (obtain ⟨_, _, rfl, _⟩ := h; rfl) | (obtain ⟨_, _, _, rfl, _⟩ := h; rfl) | (obtain ⟨_, _, _, _, rfl, _⟩ := h; rfl) | (obtain ⟨_, _, _, _, _, rfl, _⟩ := h; rfl) | (obtain ⟨_, _, _, _, _, _, rfl, _⟩ := h; rfl) | (obtain ⟨_, _, _, _, _, _, _, rfl, _⟩ := h; rfl) | (obtain ⟨_, _, _, _, _, _, _, _, rfl, _⟩ := h; rfl) | (obtain ⟨_, _, _, _, _, _, _, _, _, rfl, _⟩ := h; rfl) | (obtain ⟨_, _, _, _, _, _, _, _, _, _, rfl, _⟩ := h; rfl) | (obtain ⟨_, _, _, _, _, _, _, _, _, _, _, rfl, _⟩ := h; rfl) | (obtain ⟨_, _, _, _, _, _, _, _, _, _, _, _, rfl, _⟩ := h; rfl) | (obtain ⟨_, _, _, _, _, _, _, _, _, _, _, _, _, rfl, _⟩ := h; rfl) | (obtain ⟨_, _, _, _, _, _, _, _, _, _, _, _, _, _, rfl, _⟩ := h; rfl)
  case run =>
    obtain ⟨v, d, rfl, hv, k⟩ := h
    refine ⟨_, (pss_cons (ps_if (PW.pt (pw_and (pt_val (pe_callB call_isi (by rfl) B.isinstance (by decide +kernel) (pa_cons (pv 0) (pa_cons (pe_bltn (v := .ty "tuple") (by rfl) B.tuple (by decide +kernel) rfl) pa_nil)))) (pw_and1 (pt_cmpR op_eq (pe_callB call_len_seq (by rfl) B.len (by decide +kernel) (pa_cons (pv 0) pa_nil)) pe_int (nomark _))))) (pss_one (ps_ret (pe_and (pe_c C_is_int hr (by decide) (by rfl) (pa_cons (pe_ix ix_seq (pv 0) pe_int (fun _ _ => rfl)) pa_nil)) (pe_and (pe_c C_is_int hr (by decide) (by rfl) (pa_cons (pe_ix ix_seq (pv 0) pe_int (fun _ _ => rfl)) pa_nil)) (pe_one (pe_cmpR op_ge (pe_ix ix_seq (pv 0) pe_int (fun _ _ => rfl)) pe_int (nomark _))))))) pss_nil)
      (pss_one (ps_ret (pe_c C_is_int hr (by decide) (by rfl) (pa_cons (pv 0) pa_nil))))), ?_⟩
    refine ⟨_, rfl, _, _, _, _, _, rfl, .ty _, hv.ty, kit_ty (kit_tup _), _, rfl, ite2 (fun e => ?_) (fun e => ?_)⟩
    · obtain ⟨ds, rfl⟩ : ∃ ds, d = .tuple ds := by
        cases d with
        | tuple ds => exact ⟨ds, rfl⟩
        | _ => cases e
      obtain ⟨a, ws, rfl, sq, all⟩ := hv.tuple
      refine ⟨_, rfl, a, ws, rfl, .inr sq, rfl, _, rfl, ite2 (fun e2 => ?_) (fun e2 => ?_)⟩
      · have e3 : ((ws.length : Nat) : Int) = 2 := V.int.inj (of_decide_eq_true e2)
        have el : ds.length = 2 := by have := all.len; omega
        obtain ⟨x, y, rfl⟩ : ∃ x y, ds = [x, y] := by
          match ds, el with
          | [x, y], _ => exact ⟨x, y, rfl⟩
        refine ⟨_, rfl, ix_dt hv (by decide) rfl fun u hu => ?_⟩
        refine ⟨u, x, rfl, hu, _, rfl, ite2 (fun ex => ?_) (fun ex => ?_)⟩
        · refine ⟨_, rfl, ix_dt hv (by decide) rfl fun u2 hu2 => ?_⟩
          refine ⟨u2, y, rfl, hu2, _, rfl, ite2 (fun ey => ?_) (fun ey => ?_)⟩
          · obtain ⟨i, rfl⟩ : ∃ i, x = .int i := by
              cases x with
              | int i => exact ⟨i, rfl⟩
              | _ => cases ex
            obtain ⟨j, rfl⟩ : ∃ i, y = .int i := by
              cases y with
              | int i => exact ⟨i, rfl⟩
              | _ => cases ey
            exact ⟨_, rfl, ix_di hv (by decide) rfl ⟨_, _, rfl, rfl, k⟩⟩
          · have z : isNumD (.tuple [x, y]) = false := by
              cases y with
              | int i => exact absurd rfl ey
              | _ => cases x <;> rfl
            rw [z] at k
            exact k
        · have z : isNumD (.tuple [x, y]) = false := by
            cases x with
            | int i => exact absurd rfl ex
            | _ => rfl
          rw [z] at k
          exact k
      · have z : isNumD (.tuple ds) = false := numD_len ds fun l => e2 (decide_eq_true (congrArg V.int (by have := all.len; omega)))
        rw [z] at k
        refine ⟨_, rfl, _, _, rfl, hv, ?_⟩
        exact k
    · have z : isNumD d = isIntD d := by
        cases d with
        | tuple ds => exact absurd rfl e
        | _ => rfl
      rw [z] at k
      exact ⟨_, rfl, _, _, rfl, hv, k⟩
def pairD : PyData → Int × Int
  | .int i => (i, 1)
  | .tuple [.int a, .int b] => (a, b)
  | _ => (0, 1)
/-- as_pair(number), of a number -/
def sp_as_pair (K : PySem.W.Frag) (c : Addr) : Sp := fun vs H Q _ => ∃ (v : V) (d : PyData), vs = [v] ∧ D K H v d ∧ isNumD d = true ∧
  ∀ p H', Same H H' → SqT K H' p [.int (pairD d).1, .int (pairD d).2] → Q (.ref p) H'
theorem cal_as_pair (B : Bl mg) (DD : OwnDef K mg "as_pair" s_as_pair)   : Cal P w K mg base 1 "as_pair" (sp_as_pair K c) [] := by
  obtain ⟨f, fd, F, hm⟩ := DD.ex
  refine ⟨f, fd, ["number"], [], F.ok sc_as_pair (fun vs H Q E h => ?len) (fun cdv A outer s H vs Q E hr h => ?run), hm, F.kp, F.binds (fun _ _ _ _ _ _ us hl => match us, hl with | [_], _ => rfl), .nil⟩
  case len => first | (obtain ⟨_, rfl, _⟩ := h; rfl) | (obtain ⟨_, _, rfl, _⟩ := h; rfl) | (obtain ⟨_, _, _, rfl, _⟩ := h; rfl) | (obtain ⟨_, _, _, _, rfl, _⟩ := h; rfl) | (obtain ⟨_, _, _, _, _, rfl, _⟩ := h; rfl) | (obtain ⟨_, _, _, _, _, _, rfl, _⟩ := h; rfl) | (obtain ⟨_, _, _, _, _, _, _, rfl, _⟩ := h; rfl) | (obtain ⟨_, _, _, _, _, _, _, _, rfl, _⟩ := h; rfl) | (obtain ⟨_, _, _, _, _, _, _, _, _, rfl, _⟩ := h; rfl) | (obtain ⟨_, _, _, _, _, _, _, _, _, _, rfl, _⟩ := h; rfl) | (obtain ⟨_, _, _, _, _, _, _, _, _, _, _, rfl, _⟩ := h; rfl) | (obtain ⟨_, _, _, _, _, _, _, _, _, _, _, _, rfl, _⟩ := h; rfl) | (obtain ⟨_, _, _, _, _, _, _, _, _, _, _, _, _, rfl, _⟩ := h; rfl) | (obtain ⟨_, _, _, _, _, _, _, _, _, _, _, _, _, _, rfl, _⟩ := h; rfl)
  case run =>
    obtain ⟨v, d, rfl, hv, hn, k⟩ := h
    refine ⟨_, (pss_one (ps_ret (pe_ifExp (pt_val (pe_callB call_isi (by rfl) B.isinstance (by decide +kernel) (pa_cons (pv 0) (pa_cons (pe_bltn (v := .ty "tuple") (by rfl) B.tuple (by decide +kernel) rfl) pa_nil)))) (pv 0) (pe_tup (pa_cons (pv 0) (pa_cons pe_int pa_nil)))))), ?_⟩
    refine ⟨_, rfl, _, _, _, _, _, rfl, .ty _, hv.ty, kit_ty (kit_tup _), _, rfl, ite2 (fun e => ?_) (fun e => ?_)⟩
    · obtain ⟨x, y, rfl, hy⟩ : ∃ x y, d = encQ (x, y) ∧ y ≥ 1 := by
        match d, hn, e with
        | .tuple [.int x, .int y], hn, _ => exact ⟨x, y, rfl, of_decide_eq_true hn⟩
      obtain ⟨a, ws, rfl, sq, all⟩ := hv.tuple
      obtain ⟨w1, e1, d1⟩ := all.get (i := 0) rfl
      obtain ⟨w2, e2, d2⟩ := all.get (i := 1) rfl
      obtain rfl := d1.int_eq
      obtain rfl := d2.int_eq
      have el : ws = [.int x, .int y] := by
        match ws, all.len, e1, e2 with
        | [p, q], _, e1, e2 =>
          have h1 : p = .int x := Option.some.inj e1
          have h2 : q = .int y := Option.some.inj e2
          rw [h1, h2]
      subst el
      exact ⟨_, rfl, k a H (Same.refl H) sq⟩
    · obtain ⟨x, rfl⟩ : ∃ x, d = .int x := by
        match d, hn, e with
        | .int x, _, _ => exact ⟨x, rfl⟩
        | .tuple _, _, e => exact absurd rfl e
      obtain rfl := hv.int_eq
      exact ⟨_, rfl, by show 2 ≤ sizeLine; decide, fun t nt => k t _ (same_new nt) (.inl (.inl upd_same))⟩
/-- lowest(number), of a number -/
def lowD : PyData → Int × Int
  | .int i => (i, 1)
  | .tuple [.int a, .int b] => lowQ a b
  | _ => (0, 1)
def sp_lowest (K : PySem.W.Frag) (c : Addr) : Sp := fun vs H Q _ => ∃ (v : V) (d : PyData), vs = [v] ∧ D K H v d ∧ isNumD d = true ∧ (∀ a b, d = encQ (a, b) → b.natAbs < 2 ^ 8000) ∧
  ∀ p H', Same H H' → H p = none → H' p = some (.tup [.int (lowD d).1, .int (lowD d).2]) → Q (.ref p) H'
theorem cal_lowest (B : Bl mg) (DD : OwnDef K mg "lowest" s_lowest) (C_as_pair : Cal P w K mg base 1 "as_pair" (sp_as_pair K c) []) (T : Tx K mg c) : Cal P w K mg base 2 "lowest" (sp_lowest K c) [] := by
  obtain ⟨f, fd, F, hm⟩ := DD.ex
  refine ⟨f, fd, ["number"], [], F.ok sc_lowest (fun vs H Q E h => ?len) (fun cdv A outer s H vs Q E hr h => ?run), hm, F.kp, F.binds (fun _ _ _ _ _ _ us hl => match us, hl with | [_], _ => rfl), .nil⟩
  case len => first | (obtain ⟨_, rfl, _⟩ := h; rfl) | (obtain ⟨_, _, rfl, _⟩ := h; rfl) | (obtain ⟨_, _, _, rfl, _⟩ := h; rfl) | (obtain ⟨_, _, _, _, rfl, _⟩ := h; rfl) | (obtain ⟨_, _, _, _, _, rfl, _⟩ := h; rfl) | (obtain ⟨_, _, _, _, _, _, rfl, _⟩ := h; rfl) | (obtain ⟨_, _, _, _, _, _, _, rfl, _⟩ := h; rfl) | (obtain ⟨_, _, _, _, _, _, _, _, rfl, _⟩ := h; rfl) | (obtain ⟨_, _, _, _, _, _, _, _, _, rfl, _⟩ := h; rfl) | (obtain ⟨_, _, _, _, _, _, _, _, _, _, rfl, _⟩ := h; rfl) | (obtain ⟨_, _, _, _, _, _, _, _, _, _, _, rfl, _⟩ := h; rfl) | (obtain ⟨_, _, _, _, _, _, _, _, _, _, _, _, rfl, _⟩ := h; rfl) | (obtain ⟨_, _, _, _, _, _, _, _, _, _, _, _, _, rfl, _⟩ := h; rfl) | (obtain ⟨_, _, _, _, _, _, _, _, _, _, _, _, _, _, rfl, _⟩ := h; rfl)
  case run =>
    obtain ⟨v, d, rfl, hv, hn, hsz, k⟩ := h
    refine ⟨_, (pss_cons (ps_asg (pe_c C_as_pair hr (by decide) (by rfl) (pa_cons (pv 0) pa_nil)) (pg_tup (by rfl) (pgs_cons (pg_name (i := 1) sc_lowest.nd rfl (Or.inl rfl)) (pgs_cons (pg_name (i := 2) sc_lowest.nd rfl (Or.inl rfl)) pgs_nil))))
      (pss_cons (ps_set (i := 3) sc_lowest.nd rfl (Or.inl rfl) (pe_callBfun cr_gcd (by rfl) T.g_gcd (pa_cons (pv 1) (pa_cons (pv 2) pa_nil))))
      (pss_one (ps_ret (pe_tup (pa_cons (pe_op op_fdivW (pv 1) (pv 3)) (pa_cons (pe_op op_fdivW (pv 2) (pv 3)) pa_nil))))))), ?_⟩
    refine ⟨_, rfl, v, d, rfl, hv, hn, fun t H1 sm ht => ?_⟩
    refine ⟨t, _, rfl, ht, rfl, .int (pairD d).1, [.int (pairD d).2], rfl, .int (pairD d).2, [], rfl, rfl, ?_⟩
    obtain ⟨hb0, hb1, hb2⟩ : 0 < (pairD d).2 ∧ (pairD d).2.natAbs < 2 ^ 8000 ∧ lowQ (pairD d).1 (pairD d).2 = lowD d := by
      match d, hn, hsz with
      | .int i, _, _ =>
        refine ⟨by show (0:Int) < 1; decide, by show Int.natAbs 1 < 2 ^ 8000; decide, ?_⟩
        show lowQ i 1 = (i, 1)
        have g1 : Nat.gcd i.natAbs (1 : Int).natAbs = 1 := Nat.gcd_one_right _
        show (i / ((Nat.gcd i.natAbs (1 : Int).natAbs : Nat) : Int), (1:Int) / ((Nat.gcd i.natAbs (1 : Int).natAbs : Nat) : Int)) = (i, 1)
        rw [g1]; exact Prod.ext (Int.ediv_one i) rfl
      | .tuple [.int x, .int y], hn, hsz =>
        have hy : y ≥ 1 := of_decide_eq_true hn
        exact ⟨by show 0 < y; omega, hsz x y rfl, rfl⟩
    rw [← hb2] at k
    generalize (pairD d).1 = x at *
    generalize (pairD d).2 = y at *
    have hg : 0 < Nat.gcd x.natAbs y.natAbs := gcd_pos hb0
    have hg2 : Nat.gcd x.natAbs y.natAbs < 2 ^ 8000 := Nat.lt_of_le_of_lt (gcd_le hb0) hb1
    have hd1 : CDivW x ((Nat.gcd x.natAbs y.natAbs : Nat) : Int) := wide_div (b := 8000) (by omega) (by simpa using hg2) (by decide) (by decide)
    have hd2 : CDivW y ((Nat.gcd x.natAbs y.natAbs : Nat) : Int) := wide_div (b := 8000) (by omega) (by simpa using hg2) (by decide) (by decide)
    refine ⟨_, rfl, _, rfl, x, y, rfl, ?_⟩
    exact ⟨_, rfl, _, rfl, _, _, rfl, rfl, hd1, _, rfl, _, rfl, _, _, rfl, rfl, hd2, by show 2 ≤ sizeLine; decide, fun p np => k p _ (sm.trans (same_new np)) (sm.free np) upd_same⟩
end

/-! ### the program: numbers as texts -/
theorem digitsVal0 (l : List Nat) : NumText.digitsVal (48 :: l) = NumText.digitsVal l := rfl
theorem allD {l : List Nat} (h : NumText.AllDigits l) : l.all (fun c => decide (48 ≤ c) && decide (c ≤ 57)) = true := by
  rw [List.all_eq_true]
  intro c hc
  have := h c hc
  simp [this.1, this.2]
theorem split_one {l : List Nat} {s : Nat} (hs : s < 256) (h : s ∉ l) : Txt.split (SX.S l) (SX.S [s]) = [SX.S l] := by
  have e := SX.split_S (a := l) (b := [s]) (by simp) (by simp [hs])
  rw [e, show TL.spl [s] 0 [] l = [l] from SX.spl_join (c := s) (sep := []) (parts := [l]) (by simp) (by simpa using h)]
  rfl
theorem split_join {parts : List (List Nat)} {s : Nat} (hs : s < 256) (hp : parts ≠ []) (h : ∀ p ∈ parts, s ∉ p) : Txt.split (SX.S (TL.joinL [s] parts)) (SX.S [s]) = parts.map SX.S := by
  rw [SX.split_S (by simp) (by simp [hs]), SX.spl_join hp h]
def qParts (q : Int × Int) : List (List Nat) := if q.2 = 1 then [TL.numL q.1.toNat] else [TL.numL q.1.toNat, TL.numL q.2.toNat]
theorem qL_parts (q : Int × Int) : qL q = TL.joinL [47] (qParts q) := by
  unfold qL qParts
  split <;> rfl
theorem digit_not {c : Nat} (l : List Nat) (h : NumText.AllDigits l) (hc : c < 48 ∨ 57 < c) : c ∉ l := fun hm => by
  have := h c hm
  omega
theorem qParts_free (q : Int × Int) : ∀ p ∈ qParts q, (47 : Nat) ∉ p := by
  intro p hp
  unfold qParts at hp
  split at hp
  · rw [List.mem_singleton] at hp; subst hp; exact TL.numL_free (.inl (by decide))
  · rcases List.mem_cons.mp hp
        with rfl | hp
    · exact TL.numL_free (.inl (by decide))
    · rw [List.mem_singleton] at hp; subst hp; exact TL.numL_free (.inl (by decide))
theorem qSplit (q : Int × Int) : Txt.split (SX.S (qL q)) (SX.S [47]) = (qParts q).map SX.S := by
  rw [qL_parts]
  exact split_join (by decide) (by unfold qParts; split <;> simp) (qParts_free q)
section
variable {P : Program} {w : World} {K : PySem.W.Frag} {mg : Str → Option Value} {base : Heap} {c : Addr}
def sp__int_text (K : PySem.W.Frag) (c : Addr) : Sp := fun vs H Q _ => ∃ (n : Int), vs = [.int n] ∧ 0 ≤ n ∧ n < 10 ^ 50 ∧ ∀ H', Same H H' → Q (.str (SX.S (TL.numL n.toNat))) H'
theorem cal__int_text (B : Bl mg) (DD : OwnDef K mg "_int_text" s__int_text)  (T : Tx K mg c) : Cal P w K mg base 1 "_int_text" (sp__int_text K c) [] := by
  obtain ⟨f, fd, F, hm⟩ := DD.ex
  refine ⟨f, fd, ["integer"], [], F.ok sc__int_text (fun vs H Q E h => ?len) (fun cdv A outer s H vs Q E hr h => ?run), hm, F.kp, F.binds (fun _ _ _ _ _ _ us hl => match us, hl with | [_], _ => rfl), .nil⟩
  case len => first | (obtain ⟨_, rfl, _⟩ := h; rfl) | (obtain ⟨_, _, rfl, _⟩ := h; rfl) | (obtain ⟨_, _, _, rfl, _⟩ := h; rfl) | (obtain ⟨_, _, _, _, rfl, _⟩ := h; rfl) | (obtain ⟨_, _, _, _, _, rfl, _⟩ := h; rfl) | (obtain ⟨_, _, _, _, _, _, rfl, _⟩ := h; rfl) | (obtain ⟨_, _, _, _, _, _, _, rfl, _⟩ := h; rfl) | (obtain ⟨_, _, _, _, _, _, _, _, rfl, _⟩ := h; rfl) | (obtain ⟨_, _, _, _, _, _, _, _, _, rfl, _⟩ := h; rfl) | (obtain ⟨_, _, _, _, _, _, _, _, _, _, rfl, _⟩ := h; rfl) | (obtain ⟨_, _, _, _, _, _, _, _, _, _, _, rfl, _⟩ := h; rfl) | (obtain ⟨_, _, _, _, _, _, _, _, _, _, _, _, rfl, _⟩ := h; rfl) | (obtain ⟨_, _, _, _, _, _, _, _, _, _, _, _, _, rfl, _⟩ := h; rfl) | (obtain ⟨_, _, _, _, _, _, _, _, _, _, _, _, _, _, rfl, _⟩ := h; rfl)
  case run =>
    obtain ⟨n, rfl, h0, h1, k⟩ := h
    refine ⟨_, (pss_cons (ps_set (i := 1) sc__int_text.nd rfl (Or.inl rfl) (pe_lst pa_nil))
      (pss_cons (ps_while PassesOwn.never (pt_cmpR op_ge (pv 0) (pe_gint (by rfl) T.g_BLOCK) (nomark _)) (pss_cons (ps_asg (pe_callB call_divmodW (by rfl) B.divmod (by decide +kernel) (pa_cons (pv 0) (pa_cons (pe_gint (by rfl) T.g_BLOCK) pa_nil))) (pg_tup (by rfl) (pgs_cons (pg_name (i := 0) sc__int_text.nd rfl (Or.inl rfl)) (pgs_cons (pg_name (i := 2) sc__int_text.nd rfl (Or.inl rfl)) pgs_nil))))
      (pss_one (ps_expr (pe_bm PySem.F.plainAttrs_list PySem.F.slot_list_append PySem.F.type_list_append mt_append (pv 1) (pa_cons (pe_m1 PySem.F.slot_str_zfill PySem.F.type_str_zfill mt_zfill (pe_callTy call_str_int (by rfl) B.str (by decide +kernel) (pa_cons (pv 2) pa_nil)) (pe_gint (by rfl) T.g_BLOCK_DIGITS)) pa_nil))))))
      (pss_cons (ps_expr (pe_bm PySem.F.plainAttrs_list PySem.F.slot_list_append PySem.F.type_list_append mt_append (pv 1) (pa_cons (pe_callTy call_str_int (by rfl) B.str (by decide +kernel) (pa_cons (pv 0) pa_nil)) pa_nil)))
      (pss_one (ps_ret (pe_join pe_str (pe_revL (pv 1)))))))), ?_⟩
    refine ⟨Nat.zero_le _, fun l nl => ?_⟩
    refine while_by (fun σ H2 => σ = [some (.int n), some (.ref l), none] ∧ H2 = upd H l (.lst [])) (fun _ _ => 0) ⟨rfl, rfl⟩ ?_ ?_
    · rintro σ H2 ⟨rfl, rfl⟩
      refine ⟨_, rfl, _, _, rfl, rfl, _, rfl, ite2 (fun e => ?_) (fun e => ?_)⟩
      · have : (10 ^ 60 : Int) ≤ n := of_decide_eq_true e
        omega
      · have hS : ∀ xs, SqL K (upd H l (.lst xs)) l xs := fun xs => .inl (.inl upd_same)
        refine ⟨_, rfl, .inl ⟨rfl, _, .inl (.inl upd_same)⟩, _, rfl, n, rfl, log2_50 h0 h1, l, [], _, rfl, rfl, upd_same, by decide, ?_⟩
        refine ⟨⟨_, rfl⟩, _, rfl, l, [_], rfl, .inl (.inl upd_same), fun p np => ?_⟩
        refine ⟨_, p, [Str.ofString (toString n)], rfl, rfl, .inl (.inl (.inl upd_same)), ?_, ?_⟩
        · have l1 := numL_50 h0 h1
          show (([(Str.ofString (toString n)).length] : List Nat).sum + 1 * _) ≤ 16777216
          have z : ("" : Str).length = 0 := by decide +kernel
          rw [toS h0, SX.S_len, z]
          simp
          omega
        · have e1 : Txt.join ("" : Str) [Str.ofString (toString n)] = SX.S (TL.numL n.toNat) := by
            have z : ("" : Str) = SX.S [] := by decide +kernel
            rw [toS h0, z]
            exact SX.join_S [] [TL.numL n.toNat]
          rw [e1]
          have np1 : (upd H l (.lst [])) l = some (.lst []) := upd_same
          refine k _ fun b o e => ?_
          have hb : b ≠ l := ne_of_none e nl
          have hbp : b ≠ p := fun z => by
            subst z
            rw [upd_ne hb, upd_ne hb] at np
            rw [np] at e
            cases e
          rw [upd_ne hbp, upd_ne hb, upd_ne hb]
          exact e
    · rintro σ H2 Q1 Q2 hQ ⟨v, e, i, j, e1, e2, k, ek, q'⟩
      exact ⟨v, e, i, j, e1, e2, k, ek, hQ _ _ q'⟩
theorem small60 : ∀ n : Nat, n < 60 → Builtin.Range.small ((n : Nat) : Int) ((n : Nat) : Int) 60 = true := by decide +kernel
def sp__read_int (K : PySem.W.Frag) (c : Addr) : Sp := fun vs H Q _ => ∃ (l : List Nat), vs = [.str (SX.S l)] ∧ NumText.AllDigits l ∧ l.length < 60 ∧ Q (.int ((NumText.digitsVal l : Nat) : Int)) H
theorem cal__read_int (B : Bl mg) (DD : OwnDef K mg "_read_int" s__read_int)  (T : Tx K mg c) : Cal P w K mg base 1 "_read_int" (sp__read_int K c) [] := by
  obtain ⟨f, fd, F, hm⟩ := DD.ex
  refine ⟨f, fd, ["digits"], [], F.ok sc__read_int (fun vs H Q E h => ?len) (fun cdv A outer s H vs Q E hr h => ?run), hm, F.kp, F.binds (fun _ _ _ _ _ _ us hl => match us, hl with | [_], _ => rfl), .nil⟩
  case len => first | (obtain ⟨_, rfl, _⟩ := h; rfl) | (obtain ⟨_, _, rfl, _⟩ := h; rfl) | (obtain ⟨_, _, _, rfl, _⟩ := h; rfl) | (obtain ⟨_, _, _, _, rfl, _⟩ := h; rfl) | (obtain ⟨_, _, _, _, _, rfl, _⟩ := h; rfl) | (obtain ⟨_, _, _, _, _, _, rfl, _⟩ := h; rfl) | (obtain ⟨_, _, _, _, _, _, _, rfl, _⟩ := h; rfl) | (obtain ⟨_, _, _, _, _, _, _, _, rfl, _⟩ := h; rfl) | (obtain ⟨_, _, _, _, _, _, _, _, _, rfl, _⟩ := h; rfl) | (obtain ⟨_, _, _, _, _, _, _, _, _, _, rfl, _⟩ := h; rfl) | (obtain ⟨_, _, _, _, _, _, _, _, _, _, _, rfl, _⟩ := h; rfl) | (obtain ⟨_, _, _, _, _, _, _, _, _, _, _, _, rfl, _⟩ := h; rfl) | (obtain ⟨_, _, _, _, _, _, _, _, _, _, _, _, _, rfl, _⟩ := h; rfl) | (obtain ⟨_, _, _, _, _, _, _, _, _, _, _, _, _, _, rfl, _⟩ := h; rfl)
  case run =>
    obtain ⟨l, rfl, hd, hl, k⟩ := h
    refine ⟨_, (pss_cons (ps_set (i := 1) sc__read_int.nd rfl (Or.inl rfl) (pe_op op_mod (pe_callB call_len_str (by rfl) B.len (by decide +kernel) (pa_cons (pv 0) pa_nil)) (pe_gint (by rfl) T.g_BLOCK_DIGITS)))
      (pss_cons (ps_set (i := 2) sc__read_int.nd rfl (Or.inl rfl) (pe_callTy call_int_str (by rfl) B.int (by decide +kernel) (pa_cons (pe_op op_add_str pe_str (pe_slice C8.sl_txt (pv 0) po_none (po_some (pv 1)))) pa_nil)))
      (pss_cons (ps_for PassesOwn.never rfl (pi_range3 (by rfl) B.range (pa_cons (pv 1) (pa_cons (pe_callB call_len_str (by rfl) B.len (by decide +kernel) (pa_cons (pv 0) pa_nil)) (pa_cons (pe_gint (by rfl) T.g_BLOCK_DIGITS) pa_nil)))) (pg_name (i := 3) sc__read_int.nd rfl (Or.inl rfl)) (pss_one (ps_set (i := 2) sc__read_int.nd rfl (Or.inl rfl) (pe_op op_add (pe_op op_mulW (pv 2) (pe_gint (by rfl) T.g_BLOCK)) (pe_callTy call_int_str (by rfl) B.int (by decide +kernel) (pa_cons (pe_slice C8.sl_txt (pv 0) (po_some (pv 3)) (po_some (pe_op op_add (pv 3) (pe_gint (by rfl) T.g_BLOCK_DIGITS)))) pa_nil))))))
      (pss_one (ps_ret (pv 2)))))), ?_⟩
    have sl : sizeLine = 16777216 := sizeLine_eq
    have em : (((SX.S l).length : Nat) : Int) % 60 = ((l.length : Nat) : Int) := by rw [SX.S_len]; omega
    refine ⟨_, rfl, _, rfl, by rw [SX.S_len]; omega, _, _, rfl, rfl, (by show (0 : Int) < 60; decide), ?_⟩
    have e48 : ("0" : Str) = SX.S [48] := by decide +kernel
    refine ⟨_, rfl, _, rfl, _, rfl, _, rfl, by rw [SX.S_len]; omega, ?_⟩
    have ec : Txt.slice (SX.S l) none (some ((((SX.S l).length : Nat) : Int) % 60)) = SX.S l := by
      rw [em, SX.slice_to (by omega)]
      congr 1
      rw [show ((l.length : Nat) : Int).toNat = l.length by omega, List.take_length]
    refine ⟨_, _, rfl, congrArg V.str ec, ?_, ?_⟩
    · rw [e48, SX.S_len, SX.S_len, sl]; simp; omega
    rw [e48, SX.S_cat]
    refine ⟨_, _, rfl, SX.int_S (allD (l := 48 :: l) ?_) (by simp) (by simp; omega), by rw [SX.S_len]; simp; omega, ?_⟩
    · intro d hm
      rcases List.mem_cons.mp hm
            with rfl | hm
      · decide
      · exact hd d hm
    refine ⟨_, rfl, _, rfl, _, rfl, by rw [SX.S_len]; omega, ?_⟩
    refine ⟨((l.length : Nat) : Int), ((l.length : Nat) : Int), 60, 0, ?_, ?_, ?_⟩
    · show [V.int ((((SX.S l).length : Nat) : Int) % 60), V.int (((SX.S l).length : Nat) : Int), V.int 60] = _
      rw [em, SX.S_len]
    · refine ⟨by decide, by decide, ?_, ?_⟩
      · exact small60 _ hl
      · unfold Builtin.Range.rangeSize
        rw [if_pos (by decide), if_neg (by omega)]
        rfl
    refine for_rangeC (n := 0) (fun _ σ H2 => σ = [some (.str (SX.S l)), some (.int ((((SX.S l).length : Nat) : Int) % 60)), some (.int ((NumText.digitsVal l : Nat) : Int)), none] ∧ H2 = H) ⟨rfl, rfl⟩ (fun i _ _ hi => absurd hi (Nat.not_lt_zero i)) ?_
    rintro σ H2 ⟨rfl, rfl⟩
    exact ⟨_, rfl, k⟩
def sp_is_digits (K : PySem.W.Frag) (c : Addr) : Sp := fun vs H Q _ => ∃ (x : Str), vs = [.str x] ∧ Q (.bl (Txt.isascii x && Txt.isdigit x)) H
theorem cal_is_digits (B : Bl mg) (DD : OwnDef K mg "is_digits" s_is_digits)   : Cal P w K mg base 1 "is_digits" (sp_is_digits K c) [] := by
  obtain ⟨f, fd, F, hm⟩ := DD.ex
  refine ⟨f, fd, ["text"], [], F.ok sc_is_digits (fun vs H Q E h => ?len) (fun cdv A outer s H vs Q E hr h => ?run), hm, F.kp, F.binds (fun _ _ _ _ _ _ us hl => match us, hl with | [_], _ => rfl), .nil⟩
  case len => first | (obtain ⟨_, rfl, _⟩ := h; rfl) | (obtain ⟨_, _, rfl, _⟩ := h; rfl) | (obtain ⟨_, _, _, rfl, _⟩ := h; rfl) | (obtain ⟨_, _, _, _, rfl, _⟩ := h; rfl) | (obtain ⟨_, _, _, _, _, rfl, _⟩ := h; rfl) | (obtain ⟨_, _, _, _, _, _, rfl, _⟩ := h; rfl) | (obtain ⟨_, _, _, _, _, _, _, rfl, _⟩ := h; rfl) | (obtain ⟨_, _, _, _, _, _, _, _, rfl, _⟩ := h; rfl) | (obtain ⟨_, _, _, _, _, _, _, _, _, rfl, _⟩ := h; rfl) | (obtain ⟨_, _, _, _, _, _, _, _, _, _, rfl, _⟩ := h; rfl) | (obtain ⟨_, _, _, _, _, _, _, _, _, _, _, rfl, _⟩ := h; rfl) | (obtain ⟨_, _, _, _, _, _, _, _, _, _, _, _, rfl, _⟩ := h; rfl) | (obtain ⟨_, _, _, _, _, _, _, _, _, _, _, _, _, rfl, _⟩ := h; rfl) | (obtain ⟨_, _, _, _, _, _, _, _, _, _, _, _, _, _, rfl, _⟩ := h; rfl)
  case run =>
    obtain ⟨x, rfl, k⟩ := h
    refine ⟨_, (pss_one (ps_ret (pe_and (pe_m0 PySem.F.slot_str_isascii PySem.F.type_str_isascii mt_isascii (pv 0)) (pe_one (pe_m0 PySem.F.slot_str_isdigit PySem.F.type_str_isdigit mt_isdigit (pv 0)))))), ?_⟩
    refine ⟨_, rfl, ⟨_, rfl⟩, x, rfl, rfl, trivial, _, rfl, ite2 (fun e => ?_) (fun e => ?_)⟩
    · rw [e, Bool.true_and] at k
      exact ⟨_, rfl, ⟨_, rfl⟩, x, rfl, rfl, trivial, k⟩
    · have e' : Txt.isascii x = false := by
        cases q : Txt.isascii x with
        | false => rfl
        | true => exact absurd q e
      rw [e', Bool.false_and] at k
      exact k
theorem numL_isdigit (n : Nat) : (Txt.isascii (SX.S (TL.numL n)) && Txt.isdigit (SX.S (TL.numL n))) = true := by
  have hd := TL.numL_digits n
  have hp : 0 < (TL.numL n).length := List.length_pos_iff.mpr (TL.numL_ne n)
  unfold Txt.isascii Txt.isdigit
  rw [Bool.and_eq_true,
        Bool.and_eq_true]
  refine ⟨?_, ?_, ?_⟩
  · rw [← Array.all_toList, List.all_eq_true]
    intro d hm
    have := hd d hm
    simp; omega
  · rw [SX.S_len]; exact decide_eq_true hp
  · rw [← Array.all_toList, List.all_eq_true]
    intro d hm
    have := hd d hm
    have h2 : ∀ d : Nat, d < 58 → 48 ≤ d → Unicode.isDigit d = true := by decide +kernel
    exact h2 d (by omega) this.1
/-- number_text(pair) -/
def sp_number_text (K : PySem.W.Frag) (c : Addr) : Sp := fun vs H Q _ => ∃ (v : V) (q : Int × Int), vs = [v] ∧ D K H v (encQ q) ∧ OkW q ∧ ∀ H', Same H H' → Q (.str (SX.S (qL q))) H'
theorem cal_number_text (B : Bl mg) (DD : OwnDef K mg "number_text" s_number_text) (C__int_text : Cal P w K mg base 1 "_int_text" (sp__int_text K c) [])  : Cal P w K mg base 2 "number_text" (sp_number_text K c) [] := by
  obtain ⟨f, fd, F, hm⟩ := DD.ex
  refine ⟨f, fd, ["pair"], [], F.ok sc_number_text (fun vs H Q E h => ?len) (fun cdv A outer s H vs Q E hr h => ?run), hm, F.kp, F.binds (fun _ _ _ _ _ _ us hl => match us, hl with | [_], _ => rfl), .nil⟩
  case len => first | (obtain ⟨_, rfl, _⟩ := h; rfl) | (obtain ⟨_, _, rfl, _⟩ := h; rfl) | (obtain ⟨_, _, _, rfl, _⟩ := h; rfl) | (obtain ⟨_, _, _, _, rfl, _⟩ := h; rfl) | (obtain ⟨_, _, _, _, _, rfl, _⟩ := h; rfl) | (obtain ⟨_, _, _, _, _, _, rfl, _⟩ := h; rfl) | (obtain ⟨_, _, _, _, _, _, _, rfl, _⟩ := h; rfl) | (obtain ⟨_, _, _, _, _, _, _, _, rfl, _⟩ := h; rfl) | (obtain ⟨_, _, _, _, _, _, _, _, _, rfl, _⟩ := h; rfl) | (obtain ⟨_, _, _, _, _, _, _, _, _, _, rfl, _⟩ := h; rfl) | (obtain ⟨_, _, _, _, _, _, _, _, _, _, _, rfl, _⟩ := h; rfl) | (obtain ⟨_, _, _, _, _, _, _, _, _, _, _, _, rfl, _⟩ := h; rfl) | (obtain ⟨_, _, _, _, _, _, _, _, _, _, _, _, _, rfl, _⟩ := h; rfl) | (obtain ⟨_, _, _, _, _, _, _, _, _, _, _, _, _, _, rfl, _⟩ := h; rfl)
  case run =>
    obtain ⟨v, q, rfl, hv, ok, k⟩ := h
    refine ⟨_, (pss_cons (ps_if (pt_cmpR op_eq (pe_ix ix_seq (pv 0) pe_int (fun _ _ => rfl)) pe_int (nomark _)) (pss_one (ps_ret (pe_c C__int_text hr (by decide) (by rfl) (pa_cons (pe_ix ix_seq (pv 0) pe_int (fun _ _ => rfl)) pa_nil)))) pss_nil)
      (pss_one (ps_ret (pe_joined (PJ.cons (pe_fmt (pe_c C__int_text hr (by decide) (by rfl) (pa_cons (pe_ix ix_seq (pv 0) pe_int (fun _ _ => rfl)) pa_nil))) (PJ.cons pe_str (PJ.cons (pe_fmt (pe_c C__int_text hr (by decide) (by rfl) (pa_cons (pe_ix ix_seq (pv 0) pe_int (fun _ _ => rfl)) pa_nil))) PJ.nil))))))), ?_⟩
    refine ⟨_, rfl, ix_di hv (by decide) rfl ?_⟩
    refine ⟨rfl, _, rfl, ite2 (fun e => ?_) (fun e => ?_)⟩
    · have e1 : q.2 = 1 := V.int.inj (of_decide_eq_true e)
      refine ⟨_, rfl, ix_di hv (by decide) rfl ?_⟩
      refine ⟨q.1, rfl, ok.a, ok.a2, fun H1 s1 => ?_⟩
      have z : qL q = TL.numL q.1.toNat := by unfold qL; rw [if_pos e1]
      rw [z] at k
      exact k _ s1
    · have e1 : ¬ q.2 = 1 := fun z => e (decide_eq_true (congrArg V.int z))
      have l1 := numL_50 ok.a ok.a2
      have l2 := numL_50 (Int.le_of_lt ok.b) ok.b2
      have sl : sizeLine = 16777216 := sizeLine_eq
      have c47 : ("/" : Str) = SX.S [47] := by decide +kernel
      have c0 : Str.empty = SX.S [] := by decide +kernel
      refine ⟨_, rfl, ix_di hv (by decide) rfl ?_⟩
      refine ⟨q.1, rfl, ok.a, ok.a2, fun H1 s1 => ?_⟩
      refine .inl ⟨_, rfl, by rw [SX.S_len]; omega, _, rfl, ?_, ?_⟩
      · rw [c0, SX.S_cat, SX.S_len, List.nil_append]; omega
      refine ⟨_, rfl, ?_, ?_⟩
      · rw [c0, c47, SX.S_cat, SX.S_cat, SX.S_len, sl]; simp; omega
      have hv1 := D.same s1 hv
      refine ⟨_, rfl, ix_di hv1 (by decide) rfl ?_⟩
      refine ⟨q.2, rfl, Int.le_of_lt ok.b, ok.b2, fun H2 s2 => ?_⟩
      refine .inl ⟨_, rfl, by rw [SX.S_len]; omega, _, rfl, ?_, ?_⟩
      · rw [c0, c47, SX.S_cat, SX.S_cat, SX.S_cat, SX.S_len, sl]; simp; omega
      have z : SX.S (qL q) = Str.empty ++ SX.S (TL.numL q.1.toNat) ++ ("/" : Str) ++ SX.S (TL.numL q.2.toNat) := by
        rw [c0, c47, SX.S_cat, SX.S_cat, SX.S_cat]
        unfold qL
        rw [if_neg e1]
        simp
      rw [z] at k
      exact k _ (s1.trans s2)
theorem qL_inj_parts (q : Int × Int) : (qParts q).length = if q.2 = 1 then 1 else 2 := by
  unfold qParts
  split <;> rfl
theorem iteT' {b : Bool} {A B : Prop} (e : b = true) (h : A) : if b = true then A else B := by rw [if_pos e]; exact h
/-- read_number(text), of the text of a number in lowest terms -/
def sp_read_number (K : PySem.W.Frag) (c : Addr) : Sp := fun vs H Q _ => ∃ (q : Int × Int), vs = [.str (SX.S (qL q))] ∧ OkW q ∧ lowQ q.1 q.2 = q ∧
  ∀ p H', Same H H' → H p = none → H' p = some (.tup [.int q.1, .int q.2]) → Q (.ref p) H'
theorem cal_read_number (B : Bl mg) (DD : OwnDef K mg "read_number" s_read_number) (C__read_int : Cal P w K mg base 1 "_read_int" (sp__read_int K c) []) (C_lowest : Cal P w K mg base 2 "lowest" (sp_lowest K c) []) (C_is_number : Cal P w K mg base 2 "is_number" (sp_is_number K c) []) (C_number_text : Cal P w K mg base 2 "number_text" (sp_number_text K c) []) (C_is_digits : Cal P w K mg base 1 "is_digits" (sp_is_digits K c) [])  : Cal P w K mg base 3 "read_number" (sp_read_number K c) [] := by
  obtain ⟨f, fd, F, hm⟩ := DD.ex
  refine ⟨f, fd, ["text"], [], F.ok sc_read_number (fun vs H Q E h => ?len) (fun cdv A outer s H vs Q E hr h => ?run), hm, F.kp, F.binds (fun _ _ _ _ _ _ us hl => match us, hl with | [_], _ => rfl), .nil⟩
  case len => first | (obtain ⟨_, rfl, _⟩ := h; rfl) | (obtain ⟨_, _, rfl, _⟩ := h; rfl) | (obtain ⟨_, _, _, rfl, _⟩ := h; rfl) | (obtain ⟨_, _, _, _, rfl, _⟩ := h; rfl) | (obtain ⟨_, _, _, _, _, rfl, _⟩ := h; rfl) | (obtain ⟨_, _, _, _, _, _, rfl, _⟩ := h; rfl) | (obtain ⟨_, _, _, _, _, _, _, rfl, _⟩ := h; rfl) | (obtain ⟨_, _, _, _, _, _, _, _, rfl, _⟩ := h; rfl) | (obtain ⟨_, _, _, _, _, _, _, _, _, rfl, _⟩ := h; rfl) | (obtain ⟨_, _, _, _, _, _, _, _, _, _, rfl, _⟩ := h; rfl) | (obtain ⟨_, _, _, _, _, _, _, _, _, _, _, rfl, _⟩ := h; rfl) | (obtain ⟨_, _, _, _, _, _, _, _, _, _, _, _, rfl, _⟩ := h; rfl) | (obtain ⟨_, _, _, _, _, _, _, _, _, _, _, _, _, rfl, _⟩ := h; rfl) | (obtain ⟨_, _, _, _, _, _, _, _, _, _, _, _, _, _, rfl, _⟩ := h; rfl)
  case run =>
    obtain ⟨q, rfl, ok, low, k⟩ := h
    refine ⟨_, (pss_cons (ps_set (i := 1) sc_read_number.nd rfl (Or.inl rfl) (pe_split (pv 0) pe_str))
      (pss_cons (ps_if (PW.pt (pw_or (pt_cmpR op_gt (pe_callB call_len_seq (by rfl) B.len (by decide +kernel) (pa_cons (pv 1) pa_nil)) pe_int (nomark _)) (pw_or1 (pt_not (pt_val (pe_callB (cr_all rfl) (by rfl) B.all (by decide +kernel) (pa_cons (pe_lc (own := [("part", 2)]) (by rfl) sc_read_number.nd (pi_list (pv 1)) (blkOk_by (own := [("part", 2)]) (N := ["text", "parts", "part", "number", "pair"]) (sc := defScope s_read_number) (by decide +kernel)) (fun _ _ _ _ _ => (pg_name (i := 2) sc_read_number.nd rfl (Or.inl rfl))) (fun _ _ _ _ _ => pts_nil) (fun _ _ _ _ _ => (pe_c C_is_digits hr (by decide) (by rfl) (pa_cons (pv 2) pa_nil)))) pa_nil))))))) (pss_one (ps_ret pe_non)) pss_nil)
      (pss_cons (ps_set (i := 3) sc_read_number.nd rfl (Or.inl rfl) (pe_c C__read_int hr (by decide) (by rfl) (pa_cons (pe_ix ix_seq (pv 1) pe_int (fun _ _ => rfl)) pa_nil)))
      (pss_cons (ps_if (pt_cmpR op_eq (pe_callB call_len_seq (by rfl) B.len (by decide +kernel) (pa_cons (pv 1) pa_nil)) pe_int (nomark _)) (pss_one (ps_set (i := 3) sc_read_number.nd rfl (Or.inl rfl) (pe_tup (pa_cons (pv 3) (pa_cons (pe_c C__read_int hr (by decide) (by rfl) (pa_cons (pe_ix ix_seq (pv 1) pe_int (fun _ _ => rfl)) pa_nil)) pa_nil))))) pss_nil)
      (pss_cons (ps_if (pt_not (pt_val (pe_c C_is_number hr (by decide) (by rfl) (pa_cons (pv 3) pa_nil)))) (pss_one (ps_ret pe_non)) pss_nil)
      (pss_cons (ps_set (i := 4) sc_read_number.nd rfl (Or.inl rfl) (pe_c C_lowest hr (by decide) (by rfl) (pa_cons (pv 3) pa_nil)))
      (pss_one (ps_ret (pe_ifExp (pt_cmpR op_eq (pe_c C_number_text hr (by decide) (by rfl) (pa_cons (pv 4) pa_nil)) (pv 0) (nomark _)) (pv 4) pe_non))))))))), ?_⟩
    have ql := qL_len ok
    have sl : sizeLine = 16777216 := sizeLine_eq
    have c47 : ("/" : Str) = SX.S [47] := by decide +kernel
    refine ⟨_, rfl, ⟨_, rfl⟩, _, _, rfl, rfl, by decide +kernel, by rw [SX.S_len]; omega, fun l nl => ?_⟩
    have es : Txt.split (SX.S (qL q)) ("/" : Str) = (qParts q).map SX.S := by rw [c47]; exact qSplit q
    rw [es]
    have hS : SqL K (upd H l (.lst (((qParts q).map SX.S).map V.str))) l (((qParts q).map SX.S).map V.str) := .inl (.inl upd_same)
    have s1 : Same H (upd H l (.lst (((qParts q).map SX.S).map V.str))) := same_new nl
    -- if len(parts) > 2 or not all(..)
    refine ⟨_, rfl, l, _, rfl, .inl hS, _, _, rfl, rfl, _, rfl, ite2 (fun e => ?_) (fun _ => ?_)⟩
    · have e1 : (2 : Int) < ((((qParts q).map SX.S).map V.str).length : Nat) := of_decide_eq_true e
      rw [List.length_map, List.length_map, qL_inj_parts] at e1
      split at e1 <;> omega
    -- all([is_digits(part) for part in parts])
    refine ⟨_, rfl, l, rfl, ⟨_, hS⟩, fun D0 nD => ?_⟩
    refine lc_list (K := K) (a := l) (xs := ((qParts q).map SX.S).map V.str) (fun i H2 => Same (upd H l (.lst (((qParts q).map SX.S).map V.str))) H2 ∧ H2 D0 = some (.lst (List.replicate i (V.bl true)))) ⟨same_new nD, upd_same⟩ (fun i H2 _ ⟨s2, _⟩ => s2.seq hS) ?_ ?_
    · rintro i y H2 hi ⟨s2, eD⟩
      obtain ⟨x, hx, rfl⟩ := some_map hi
      obtain ⟨m, hm', rfl⟩ := some_map hx
      have hil : i < (qParts q).length := (List.getElem?_eq_some_iff.mp hm').1
      have hdig : (Txt.isascii (SX.S m) && Txt.isdigit (SX.S m)) = true := by
        have mem : m ∈ qParts q := List.mem_of_getElem? hm'
        unfold qParts at mem
        split at mem
        · rw [List.mem_singleton] at mem; subst mem; exact numL_isdigit _
        · rcases List.mem_cons.mp mem with rfl | mem
          · exact numL_isdigit _
          · rw [List.mem_singleton] at mem; subst mem; exact numL_isdigit _
      refine ⟨rfl, _, rfl, _, rfl, ?_⟩
      rw [hdig]
      refine ⟨_, eD, by rw [List.length_replicate]; rw [qL_inj_parts] at hil; split at hil <;> omega, fun b o e => ?_, ?_⟩
      · rw [upd_ne (ne_of_none e nD)]
        exact s2 _ _ e
      · rw [upd_same, List.replicate_succ']
    rintro H2 ⟨s2, eD⟩
    refine ⟨D0, List.replicate _ true, rfl, .inl (.inl (by rw [List.map_replicate]; exact eD)), _, rfl, ?_⟩
    rw [show (List.replicate (((qParts q).map SX.S).map V.str).length true).all id = true from by simp]
    have hS2 := s2.seq hS
    have s02 : Same H H2 := s1.trans s2
    -- number = _read_int(parts[0])
    have e0 : (((qParts q).map SX.S).map V.str)[0]? = some (V.str (SX.S (TL.numL q.1.toNat))) := by
      unfold qParts
      split <;> rfl
    refine ⟨_, rfl, rd_raw hS2 (by decide) e0 ?_⟩
    have l1 := numL_50 ok.a ok.a2
    have l2 := numL_50 (Int.le_of_lt ok.b) ok.b2
    refine ⟨_, rfl, TL.numL_digits _, by omega, ?_⟩
    rw [TL.numL_val, show ((q.1.toNat : Nat) : Int) = q.1 by have := ok.a; omega]
    have okb : q.2.natAbs < 2 ^ 8000 := Nat.lt_trans (show q.2.natAbs < 2 ^ 200 by have := ok.b; have := ok.b2; omega) (by decide +kernel)
    dsimp only [tSeq, tAsg, gName]
    refine viaIf (fun σ' H3 => ∃ (v : V) (d : PyData), σ' = [some (.str (SX.S (qL q))), some (.ref l), none, some v, none] ∧ Same H H3 ∧ LW.D K H3 v d ∧ isNumD d = true ∧ lowD d = q ∧ (∀ a b, d = encQ (a, b) → b.natAbs < 2 ^ 8000)) (fun D' go => ?_) ?_
    · refine ⟨_, rfl, l, _, rfl, .inl hS2, rfl, _, rfl, ite2 (fun e => ?_) (fun e => ?_)⟩
      · have e1 : (((((qParts q).map SX.S).map V.str).length : Nat) : Int) = 2 := V.int.inj (of_decide_eq_true e)
        rw [List.length_map, List.length_map, qL_inj_parts] at e1
        have q2 : ¬ q.2 = 1 := fun z => by rw [if_pos z] at e1; omega
        have e1' : (((qParts q).map SX.S).map V.str)[1]? = some (V.str (SX.S (TL.numL q.2.toNat))) := by
          unfold qParts
          rw [if_neg q2]
          rfl
        refine ⟨_, rfl, _, rfl, rd_raw hS2 (by decide) e1' ?_⟩
        refine ⟨_, rfl, TL.numL_digits _, by omega, ?_⟩
        rw [TL.numL_val, show ((q.2.toNat : Nat) : Int) = q.2 by have := ok.b; omega]
        refine ⟨by show 2 ≤ sizeLine; decide, fun p np => go _ _ ⟨.ref p, encQ q, rfl, s02.trans (same_new np), ?_, enc_num ok.b, low, ?_⟩⟩
        · exact .tup' (.inl (.inl upd_same)) (DAll.cons (.int _) (DAll.cons (.int _) DAll.nil))
        · intro a b z
          have z1 : PyData.tuple [.int q.1, .int q.2] = PyData.tuple [.int a, .int b] := z
          injection z1 with z1
          injection z1 with _ z1
          injection z1 with z1
          injection z1 with z1
          rw [← z1]
          exact okb
      · have q2 : q.2 = 1 := by
          by_cases z : q.2 = 1
          · exact z
          · refine absurd (decide_eq_true (congrArg V.int ?_)) e
            rw [List.length_map, List.length_map, qL_inj_parts, if_neg z]
            rfl
        refine go _ _ ⟨.int q.1, .int q.1, rfl, s02, .int _, rfl, ?_, fun a b z => by cases z⟩
        show (q.1, (1 : Int)) = q
        rw [← q2]
    rintro σ H3 ⟨v, d, rfl, s3, hv, hn, hlow, hsz⟩
    refine ⟨_, rfl, v, d, rfl, hv, _, rfl, ?_⟩
    rw [hn]
    refine ⟨_, rfl, v, d, rfl, hv, hn, hsz, fun p H4 s4 np ep => ?_⟩
    rw [hlow] at ep
    have hq : LW.D K H4 (.ref p) (encQ q) := .tup' (.inl (.inl ep)) (DAll.cons (.int _) (DAll.cons (.int _) DAll.nil))
    refine ⟨_, rfl, .ref p, q, rfl, hq, ok, fun H5 s5 => ?_⟩
    refine ⟨_, rfl, rfl, _, rfl, iteT' (decide_eq_true rfl) ?_⟩
    exact ⟨_, rfl, k p H5 (s3.trans (s4.trans s5)) (s3.free np) (s5 _ _ ep)⟩
end

/-! ### the program: rules -/
def ltQ (p q : Int × Int) : Prop := p.1 * q.2 < q.1 * p.2
instance (p q : Int × Int) : Decidable (ltQ p q) := inferInstanceAs (Decidable (_ < _))
def plainQ (o : Int × Int) (n : Int) : Int × Int := (o.1 + n * o.2, o.2)
theorem D_Q {K : PySem.W.Frag} {H : Hp} {p : Addr} {q : Int × Int} (e : H p = some (.tup [.int q.1, .int q.2])) : D K H (.ref p) (encQ q) := .tup' (.inl (.inl e)) (DAll.cons (.int _) (DAll.cons (.int _) DAll.nil))
theorem Is_Q {K : PySem.W.Frag} {A : List Addr} {H : Hp} {p : Addr} {q : Int × Int} (hp : p ∉ A) (e : H p = some (.tup [.int q.1, .int q.2])) : Is K A H (.ref p) (encQ q) := D_Q (by rw [hv_out hp]; exact e)
section
variable {P : Program} {w : World} {K : PySem.W.Frag} {mg : Str → Option Value} {base : Heap} {c : Addr}
def sp_is_less (K : PySem.W.Frag) (c : Addr) : Sp := fun vs H Q _ => ∃ (v u : V) (p q : Int × Int), vs = [v, u] ∧ D K H v (encQ p) ∧ D K H u (encQ q) ∧ smallQ p ∧ smallQ q ∧ Q (.bl (decide (ltQ p q))) H
theorem cal_is_less (B : Bl mg) (DD : OwnDef K mg "is_less" s_is_less)   : Cal P w K mg base 1 "is_less" (sp_is_less K c) [] := by
  obtain ⟨f, fd, F, hm⟩ := DD.ex
  refine ⟨f, fd, ["pair", "other_pair"], [], F.ok sc_is_less (fun vs H Q E h => ?len) (fun cdv A outer s H vs Q E hr h => ?run), hm, F.kp, F.binds (fun _ _ _ _ _ _ us hl => match us, hl with | [_, _], _ => rfl), .nil⟩
  case len => first | (obtain ⟨_, rfl, _⟩ := h; rfl) | (obtain ⟨_, _, rfl, _⟩ := h; rfl) | (obtain ⟨_, _, _, rfl, _⟩ := h; rfl) | (obtain ⟨_, _, _, _, rfl, _⟩ := h; rfl) | (obtain ⟨_, _, _, _, _, rfl, _⟩ := h; rfl) | (obtain ⟨_, _, _, _, _, _, rfl, _⟩ := h; rfl) | (obtain ⟨_, _, _, _, _, _, _, rfl, _⟩ := h; rfl) | (obtain ⟨_, _, _, _, _, _, _, _, rfl, _⟩ := h; rfl) | (obtain ⟨_, _, _, _, _, _, _, _, _, rfl, _⟩ := h; rfl) | (obtain ⟨_, _, _, _, _, _, _, _, _, _, rfl, _⟩ := h; rfl) | (obtain ⟨_, _, _, _, _, _, _, _, _, _, _, rfl, _⟩ := h; rfl) | (obtain ⟨_, _, _, _, _, _, _, _, _, _, _, _, rfl, _⟩ := h; rfl) | (obtain ⟨_, _, _, _, _, _, _, _, _, _, _, _, _, rfl, _⟩ := h; rfl) | (obtain ⟨_, _, _, _, _, _, _, _, _, _, _, _, _, _, rfl, _⟩ := h; rfl)
  case run =>
    obtain ⟨v, u, p, q, rfl, hv, hu, sp, sq, k⟩ := h
    refine ⟨_, (pss_one (ps_ret (pe_cmpR op_lt (pe_op op_mulW (pe_ix ix_seq (pv 0) pe_int (fun _ _ => rfl)) (pe_ix ix_seq (pv 1) pe_int (fun _ _ => rfl))) (pe_op op_mulW (pe_ix ix_seq (pv 1) pe_int (fun _ _ => rfl)) (pe_ix ix_seq (pv 0) pe_int (fun _ _ => rfl))) (nomark _)))), ?_⟩
    refine ⟨_, rfl, ix_di hv (by decide) rfl ?_⟩
    refine ⟨_, rfl, ix_di hu (by decide) rfl ?_⟩
    refine ⟨_, _, rfl, rfl, wide_mul sp.1 sq.2 (by decide) (by decide) (by decide), _, rfl, ix_di hu (by decide) rfl ?_⟩
    refine ⟨_, rfl, ix_di hv (by decide) rfl ?_⟩
    exact ⟨_, _, rfl, rfl, wide_mul sq.1 sp.2 (by decide) (by decide) (by decide), _, _, rfl, rfl, k⟩
def sp__plain_mark (K : PySem.W.Frag) (c : Addr) : Sp := fun vs H Q _ => ∃ (v : V) (o : Int × Int) (n : Int), vs = [v, .int n] ∧ D K H v (encQ o) ∧ n.natAbs < 2 ^ 8000 ∧ o.2.natAbs < 2 ^ 8000 ∧
  ∀ p, H p = none → Q (.ref p) (upd H p (.tup [.int (plainQ o n).1, .int (plainQ o n).2]))
theorem cal__plain_mark (B : Bl mg) (DD : OwnDef K mg "_plain_mark" s__plain_mark)   : Cal P w K mg base 1 "_plain_mark" (sp__plain_mark K c) [] := by
  obtain ⟨f, fd, F, hm⟩ := DD.ex
  refine ⟨f, fd, ["offset", "number"], [], F.ok sc__plain_mark (fun vs H Q E h => ?len) (fun cdv A outer s H vs Q E hr h => ?run), hm, F.kp, F.binds (fun _ _ _ _ _ _ us hl => match us, hl with | [_, _], _ => rfl), .nil⟩
  case len => first | (obtain ⟨_, rfl, _⟩ := h; rfl) | (obtain ⟨_, _, rfl, _⟩ := h; rfl) | (obtain ⟨_, _, _, rfl, _⟩ := h; rfl) | (obtain ⟨_, _, _, _, rfl, _⟩ := h; rfl) | (obtain ⟨_, _, _, _, _, rfl, _⟩ := h; rfl) | (obtain ⟨_, _, _, _, _, _, rfl, _⟩ := h; rfl) | (obtain ⟨_, _, _, _, _, _, _, rfl, _⟩ := h; rfl) | (obtain ⟨_, _, _, _, _, _, _, _, rfl, _⟩ := h; rfl) | (obtain ⟨_, _, _, _, _, _, _, _, _, rfl, _⟩ := h; rfl) | (obtain ⟨_, _, _, _, _, _, _, _, _, _, rfl, _⟩ := h; rfl) | (obtain ⟨_, _, _, _, _, _, _, _, _, _, _, rfl, _⟩ := h; rfl) | (obtain ⟨_, _, _, _, _, _, _, _, _, _, _, _, rfl, _⟩ := h; rfl) | (obtain ⟨_, _, _, _, _, _, _, _, _, _, _, _, _, rfl, _⟩ := h; rfl) | (obtain ⟨_, _, _, _, _, _, _, _, _, _, _, _, _, _, rfl, _⟩ := h; rfl)
  case run =>
    obtain ⟨v, o, n, rfl, hv, sn, so, k⟩ := h
    refine ⟨_, (pss_one (ps_ret (pe_tup (pa_cons (pe_op op_add (pe_ix ix_seq (pv 0) pe_int (fun _ _ => rfl)) (pe_op op_mulW (pv 1) (pe_ix ix_seq (pv 0) pe_int (fun _ _ => rfl)))) (pa_cons (pe_ix ix_seq (pv 0) pe_int (fun _ _ => rfl)) pa_nil))))), ?_⟩
    refine ⟨_, rfl, ix_di hv (by decide) rfl ?_⟩
    refine ⟨_, rfl, _, rfl, ix_di hv (by decide) rfl ?_⟩
    refine ⟨_, _, rfl, rfl, wide_mul sn so (by decide) (by decide) (by decide), _, _, rfl, rfl, _, rfl, ix_di hv (by decide) rfl ?_⟩
    exact ⟨by show 2 ≤ sizeLine; decide, fun p np => k p np⟩
def isCountD : PyData → Bool
  | .int i => decide (i ≥ 0)
  | _ => false
def sp_is_count (K : PySem.W.Frag) (c : Addr) : Sp := fun vs H Q _ => ∃ (v : V) (d : PyData), vs = [v] ∧ D K H v d ∧ Q (.bl (isCountD d)) H
theorem cal_is_count (B : Bl mg) (DD : OwnDef K mg "is_count" s_is_count) (C_is_int : Cal P w K mg base 1 "is_int" (sp_is_int K c) [])  : Cal P w K mg base 2 "is_count" (sp_is_count K c) [] := by
  obtain ⟨f, fd, F, hm⟩ := DD.ex
  refine ⟨f, fd, ["value"], [], F.ok sc_is_count (fun vs H Q E h => ?len) (fun cdv A outer s H vs Q E hr h => ?run), hm, F.kp, F.binds (fun _ _ _ _ _ _ us hl => match us, hl with | [_], _ => rfl), .nil⟩
  case len => first | (obtain ⟨_, rfl, _⟩ := h; rfl) | (obtain ⟨_, _, rfl, _⟩ := h; rfl) | (obtain ⟨_, _, _, rfl, _⟩ := h; rfl) | (obtain ⟨_, _, _, _, rfl, _⟩ := h; rfl) | (obtain ⟨_, _, _, _, _, rfl, _⟩ := h; rfl) | (obtain ⟨_, _, _, _, _, _, rfl, _⟩ := h; rfl) | (obtain ⟨_, _, _, _, _, _, _, rfl, _⟩ := h; rfl) | (obtain ⟨_, _, _, _, _, _, _, _, rfl, _⟩ := h; rfl) | (obtain ⟨_, _, _, _, _, _, _, _, _, rfl, _⟩ := h; rfl) | (obtain ⟨_, _, _, _, _, _, _, _, _, _, rfl, _⟩ := h; rfl) | (obtain ⟨_, _, _, _, _, _, _, _, _, _, _, rfl, _⟩ := h; rfl) | (obtain ⟨_, _, _, _, _, _, _, _, _, _, _, _, rfl, _⟩ := h; rfl) | (obtain ⟨_, _, _, _, _, _, _, _, _, _, _, _, _, rfl, _⟩ := h; rfl) | (obtain ⟨_, _, _, _, _, _, _, _, _, _, _, _, _, _, rfl, _⟩ := h; rfl)
  case run =>
    obtain ⟨v, d, rfl, hv, k⟩ := h
    refine ⟨_, (pss_one (ps_ret (pe_and (pe_c C_is_int hr (by decide) (by rfl) (pa_cons (pv 0) pa_nil)) (pe_one (pe_cmpR op_ge (pv 0) pe_int (nomark _)))))), ?_⟩
    refine ⟨_, rfl, v, d, rfl, hv, _, rfl, ?_⟩
    cases d with
    | int i =>
      obtain rfl := hv.int_eq
      exact ⟨_, rfl, _, _, rfl, rfl, k⟩
    | _ => exact k
def isOffD (d : PyData) : Bool := isNumD d && (decide (0 ≤ (lowD d).1) && decide ((lowD d).1 ≤ (lowD d).2))
def sp__is_offset (K : PySem.W.Frag) (c : Addr) : Sp := fun vs H Q _ => ∃ (v : V) (d : PyData), vs = [v] ∧ D K H v d ∧ (∀ a b, d = encQ (a, b) → b.natAbs < 2 ^ 8000) ∧ ∀ H', Same H H' → Q (.bl (isOffD d)) H'
theorem cal__is_offset (B : Bl mg) (DD : OwnDef K mg "_is_offset" s__is_offset) (C_lowest : Cal P w K mg base 2 "lowest" (sp_lowest K c) []) (C_is_number : Cal P w K mg base 2 "is_number" (sp_is_number K c) [])  : Cal P w K mg base 3 "_is_offset" (sp__is_offset K c) [] := by
  obtain ⟨f, fd, F, hm⟩ := DD.ex
  refine ⟨f, fd, ["value"], [], F.ok sc__is_offset (fun vs H Q E h => ?len) (fun cdv A outer s H vs Q E hr h => ?run), hm, F.kp, F.binds (fun _ _ _ _ _ _ us hl => match us, hl with | [_], _ => rfl), .nil⟩
  case len => first | (obtain ⟨_, rfl, _⟩ := h; rfl) | (obtain ⟨_, _, rfl, _⟩ := h; rfl) | (obtain ⟨_, _, _, rfl, _⟩ := h; rfl) | (obtain ⟨_, _, _, _, rfl, _⟩ := h; rfl) | (obtain ⟨_, _, _, _, _, rfl, _⟩ := h; rfl) | (obtain ⟨_, _, _, _, _, _, rfl, _⟩ := h; rfl) | (obtain ⟨_, _, _, _, _, _, _, rfl, _⟩ := h; rfl) | (obtain ⟨_, _, _, _, _, _, _, _, rfl, _⟩ := h; rfl) | (obtain ⟨_, _, _, _, _, _, _, _, _, rfl, _⟩ := h; rfl) | (obtain ⟨_, _, _, _, _, _, _, _, _, _, rfl, _⟩ := h; rfl) | (obtain ⟨_, _, _, _, _, _, _, _, _, _, _, rfl, _⟩ := h; rfl) | (obtain ⟨_, _, _, _, _, _, _, _, _, _, _, _, rfl, _⟩ := h; rfl) | (obtain ⟨_, _, _, _, _, _, _, _, _, _, _, _, _, rfl, _⟩ := h; rfl) | (obtain ⟨_, _, _, _, _, _, _, _, _, _, _, _, _, _, rfl, _⟩ := h; rfl)
  case run =>
    obtain ⟨v, d, rfl, hv, hsz, k⟩ := h
    refine ⟨_, (pss_cons (ps_if (pt_not (pt_val (pe_c C_is_number hr (by decide) (by rfl) (pa_cons (pv 0) pa_nil)))) (pss_one (ps_ret pe_bl)) pss_nil)
      (pss_cons (ps_asg (pe_c C_lowest hr (by decide) (by rfl) (pa_cons (pv 0) pa_nil)) (pg_tup (by rfl) (pgs_cons (pg_name (i := 1) sc__is_offset.nd rfl (Or.inl rfl)) (pgs_cons (pg_name (i := 2) sc__is_offset.nd rfl (Or.inl rfl)) pgs_nil))))
      (pss_one (ps_ret (pe_chain op_le op_le pe_int (pv 1) (pv 2)))))), ?_⟩
    refine ⟨_, rfl, v, d, rfl, hv, _, rfl, ?_⟩
    cases hn : isNumD d with
    | false =>
      have z : isOffD d = false := by unfold isOffD; rw [hn]; rfl
      rw [z] at k
      exact k _ (Same.refl H)
    | true =>
      have z : isOffD d = (decide (0 ≤ (lowD d).1) && decide ((lowD d).1 ≤ (lowD d).2)) := by unfold isOffD; rw [hn]; rfl
      rw [z] at k
      refine ⟨_, rfl, v, d, rfl, hv, hn, hsz, fun p H1 s1 np ep => ?_⟩
      refine ⟨p, _, rfl, .inl (.inl ep), rfl, .int (lowD d).1, [.int (lowD d).2], rfl, .int (lowD d).2, [], rfl, rfl, ?_⟩
      refine ⟨_, rfl, _, _, rfl, rfl, _, rfl, ite2 (fun e => ?_) (fun e => ?_)⟩
      · rw [e, Bool.true_and] at k
        exact ⟨_, rfl, _, _, rfl, rfl, k _ s1⟩
      · have e' : decide (0 ≤ (lowD d).1) = false := by
          cases q : decide (0 ≤ (lowD d).1) with
          | false => rfl
          | true => exact absurd q e
        rw [e', Bool.false_and] at k
        exact k _ s1
/-- _is_next_mark(element, marks), marks the list at l -/
def nextD (d : PyData) (ms : List (Int × Int)) : Bool := isNumD d && (match ms.getLast? with | some m => decide (ltQ m (lowD d)) | none => decide (0 ≤ (lowD d).1))
def sp__is_next_mark (K : PySem.W.Frag) (c : Addr) : Sp := fun vs H Q _ => ∃ (v : V) (d : PyData) (l : Addr) (ms : List (Int × Int)), vs = [v, .ref l] ∧ D K H v d ∧ D K H (.ref l) (.list (ms.map encQ)) ∧ (∀ a b, d = encQ (a, b) → b.natAbs < 2 ^ 8000) ∧
  (∀ m ∈ ms, smallQ m) ∧ (isNumD d = true → smallQ (lowD d)) ∧ ∀ H', Same H H' → Q (.bl (nextD d ms)) H'
theorem cal__is_next_mark (B : Bl mg) (DD : OwnDef K mg "_is_next_mark" s__is_next_mark) (C_lowest : Cal P w K mg base 2 "lowest" (sp_lowest K c) []) (C_is_number : Cal P w K mg base 2 "is_number" (sp_is_number K c) []) (C_is_less : Cal P w K mg base 1 "is_less" (sp_is_less K c) [])  : Cal P w K mg base 3 "_is_next_mark" (sp__is_next_mark K c) [] := by
  obtain ⟨f, fd, F, hm⟩ := DD.ex
  refine ⟨f, fd, ["element", "marks"], [], F.ok sc__is_next_mark (fun vs H Q E h => ?len) (fun cdv A outer s H vs Q E hr h => ?run), hm, F.kp, F.binds (fun _ _ _ _ _ _ us hl => match us, hl with | [_, _], _ => rfl), .nil⟩
  case len => first | (obtain ⟨_, rfl, _⟩ := h; rfl) | (obtain ⟨_, _, rfl, _⟩ := h; rfl) | (obtain ⟨_, _, _, rfl, _⟩ := h; rfl) | (obtain ⟨_, _, _, _, rfl, _⟩ := h; rfl) | (obtain ⟨_, _, _, _, _, rfl, _⟩ := h; rfl) | (obtain ⟨_, _, _, _, _, _, rfl, _⟩ := h; rfl) | (obtain ⟨_, _, _, _, _, _, _, rfl, _⟩ := h; rfl) | (obtain ⟨_, _, _, _, _, _, _, _, rfl, _⟩ := h; rfl) | (obtain ⟨_, _, _, _, _, _, _, _, _, rfl, _⟩ := h; rfl) | (obtain ⟨_, _, _, _, _, _, _, _, _, _, rfl, _⟩ := h; rfl) | (obtain ⟨_, _, _, _, _, _, _, _, _, _, _, rfl, _⟩ := h; rfl) | (obtain ⟨_, _, _, _, _, _, _, _, _, _, _, _, rfl, _⟩ := h; rfl) | (obtain ⟨_, _, _, _, _, _, _, _, _, _, _, _, _, rfl, _⟩ := h; rfl) | (obtain ⟨_, _, _, _, _, _, _, _, _, _, _, _, _, _, rfl, _⟩ := h; rfl)
  case run =>
    obtain ⟨v, d, l, ms, rfl, hv, hl, hsz, sm, sd, k⟩ := h
    refine ⟨_, (pss_cons (ps_if (pt_not (pt_val (pe_c C_is_number hr (by decide) (by rfl) (pa_cons (pv 0) pa_nil)))) (pss_one (ps_ret pe_bl)) pss_nil)
      (pss_cons (ps_set (i := 2) sc__is_next_mark.nd rfl (Or.inl rfl) (pe_c C_lowest hr (by decide) (by rfl) (pa_cons (pv 0) pa_nil)))
      (pss_one (ps_ret (pe_ifExp (pt_truth (pv 1) (by intro _; rfl)) (pe_c C_is_less hr (by decide) (by rfl) (pa_cons (pe_ix ix_seq (pv 1) (pe_un un_neg pe_int) (fun _ _ => rfl)) (pa_cons (pv 2) pa_nil))) (pe_cmpR op_ge (pe_ix ix_seq (pv 2) pe_int (fun _ _ => rfl)) pe_int (nomark _))))))), ?_⟩
    refine ⟨_, rfl, v, d, rfl, hv, _, rfl, ?_⟩
    cases hn : isNumD d with
    | false =>
      have z : nextD d ms = false := by unfold nextD; rw [hn]; rfl
      rw [z] at k
      exact k _ (Same.refl H)
    | true =>
      refine ⟨_, rfl, v, d, rfl, hv, hn, hsz, fun p H1 s1 np ep => ?_⟩
      have hl1 := D.same s1 hl
      obtain ⟨l', ws, el, sq, all⟩ := hl1.list
      cases el
      refine ⟨_, rfl, !ws.isEmpty, .inl ⟨ws, sq, rfl⟩, ?_⟩
      have wl : ws.length = ms.length := by rw [all.len, List.length_map]
      cases hg : ms.getLast? with
      | none =>
        have e0 : ms = [] := List.getLast?_eq_none_iff.mp hg
        subst e0
        have ew : ws = [] := List.length_eq_zero_iff.mp wl
        subst ew
        have z : nextD d [] = decide (0 ≤ (lowD d).1) := by unfold nextD; rw [hn]; rfl
        rw [z] at k
        refine ⟨_, rfl, ix_di (D_Q ep) (by decide) rfl ?_⟩
        exact ⟨_, _, rfl, rfl, k _ s1⟩
      | some m =>
        have z : nextD d ms = decide (ltQ m (lowD d)) := by unfold nextD; rw [hn, hg]; rfl
        rw [z] at k
        have hm1 : m ∈ ms := List.mem_of_getLast? hg
        have hpos : 0 < ws.length := by rw [wl]; exact List.length_pos_iff.mpr (List.ne_nil_of_mem hm1)
        have hne : ws ≠ [] := List.length_pos_iff.mp hpos
        have hb : (!ws.isEmpty) = true := by
          cases ws with
          | nil => exact absurd rfl hne
          | cons _ _ => rfl
        rw [hb]
        have em : (ms.map encQ)[ws.length - 1]? = some (encQ m) := by
          rw [wl, List.getElem?_map, ← List.getLast?_eq_getElem?, hg]
          rfl
        obtain ⟨u, eu, hu⟩ := all.get em
        have ea : atI ws (-1) = some u := by
          have hz : ws = ws.dropLast ++ [ws.getLast hne] := (List.dropLast_concat_getLast hne).symm
          have e2 : ws.getLast hne = u := by
            rw [← List.getLast?_eq_getElem?, List.getLast?_eq_getLast hne] at eu
            exact Option.some.inj eu
          rw [hz, e2]
          exact atI_last _ _
        refine ⟨_, rfl, _, rfl, .inl ⟨l, ws, -1, u, rfl, rfl, sq, ea, ?_⟩⟩
        exact ⟨_, rfl, u, .ref p, m, lowD d, rfl, hu, D_Q ep, sm m hm1, sd hn, k _ s1⟩
end

theorem small200' {q : Int × Int} (h : q.1.natAbs < 2 ^ 300) (h2 : q.2.natAbs < 2 ^ 300) : smallQ q := ⟨Nat.lt_trans h (by decide +kernel), Nat.lt_trans h2 (by decide +kernel)⟩
theorem plain_small {o : Int × Int} {n : Nat} (h : o.1.natAbs < 2 ^ 200 ∧ o.2.natAbs < 2 ^ 200) (hn : n ≤ 8) : (o.1 + ((n : Nat) : Int) * o.2).natAbs < 2 ^ 300 := by
  have h1 := h.1
  have h2 := h.2
  have : (((n : Nat) : Int) * o.2).natAbs ≤ 8 * o.2.natAbs := by
    rw [Int.natAbs_mul]
    exact Nat.mul_le_mul_right
          _ (by omega)
  omega
/-! ### the program: the class Rule -/
open StX
/-- what the head of a rule must be -/
structure VH (o : Int × Int) (ds : List PyData) : Prop where
  len : ds.length ≤ 8
  o2 : o.1.natAbs < 2 ^ 200 ∧ o.2.natAbs < 2 ^ 200
  num : ∀ d ∈ ds, isNumD d = true ∧ (∀ a b, d = encQ (a, b) → b.natAbs < 2 ^ 8000) ∧ (lowD d).1.natAbs < 2 ^ 200 ∧ (lowD d).2.natAbs < 2 ^ 200
  next : ∀ (i : Nat) (d : PyData), ds[i]? = some d → nextD d ((ds.take i).map lowD) = true
  last : ∀ m, (ds.map lowD).getLast? = some m → ltQ m (plainQ o ds.length)
theorem small200 {q : Int × Int} (h : q.1.natAbs < 2 ^ 200 ∧ q.2.natAbs < 2 ^ 200) : smallQ q := ⟨Nat.lt_trans h.1 (by decide +kernel), Nat.lt_trans h.2 (by decide +kernel)⟩
section
variable {P : Program} {w : World} {K : PySem.W.Frag} {mg : Str → Option Value} {base : Heap} {c : Addr}
def sp__lowest_head (K : PySem.W.Frag) (c : Addr) : Sp := fun vs H Q _ => ∃ (v u : V) (A : List Addr) (o : Int × Int) (ds : List PyData), vs = [v, u] ∧ Hd A H ∧ Is K A H v (encQ o) ∧ Is K A H u (.tuple ds) ∧ VH o ds ∧
  ∀ t H', Same H H' → Is K A H' t (.tuple ((ds.map lowD).map encQ)) → Q t H'
theorem cal__lowest_head (B : Bl mg) (DD : OwnDef K mg "_lowest_head" s__lowest_head) (C__is_next_mark : Cal P w K mg base 3 "_is_next_mark" (sp__is_next_mark K c) []) (C_lowest : Cal P w K mg base 2 "lowest" (sp_lowest K c) []) (C_is_less : Cal P w K mg base 1 "is_less" (sp_is_less K c) []) (C__plain_mark : Cal P w K mg base 1 "_plain_mark" (sp__plain_mark K c) []) (T : Tx K mg c) : Cal P w K mg base 4 "_lowest_head" (sp__lowest_head K c) [] := by
  obtain ⟨f, fd, F, hm⟩ := DD.ex
  refine ⟨f, fd, ["offset", "head"], [], F.ok sc__lowest_head (fun vs H Q E h => ?len) (fun cdv A outer s H vs Q E hr h => ?run), hm, F.kp, F.binds (fun _ _ _ _ _ _ us hl => match us, hl with | [_, _], _ => rfl), .nil⟩
  case len => first | (obtain ⟨_, rfl, _⟩ := h; rfl) | (obtain ⟨_, _, rfl, _⟩ := h; rfl) | (obtain ⟨_, _, _, rfl, _⟩ := h; rfl) | (obtain ⟨_, _, _, _, rfl, _⟩ := h; rfl) | (obtain ⟨_, _, _, _, _, rfl, _⟩ := h; rfl) | (obtain ⟨_, _, _, _, _, _, rfl, _⟩ := h; rfl) | (obtain ⟨_, _, _, _, _, _, _, rfl, _⟩ := h; rfl) | (obtain ⟨_, _, _, _, _, _, _, _, rfl, _⟩ := h; rfl) | (obtain ⟨_, _, _, _, _, _, _, _, _, rfl, _⟩ := h; rfl) | (obtain ⟨_, _, _, _, _, _, _, _, _, _, rfl, _⟩ := h; rfl) | (obtain ⟨_, _, _, _, _, _, _, _, _, _, _, rfl, _⟩ := h; rfl) | (obtain ⟨_, _, _, _, _, _, _, _, _, _, _, _, rfl, _⟩ := h; rfl) | (obtain ⟨_, _, _, _, _, _, _, _, _, _, _, _, _, rfl, _⟩ := h; rfl) | (obtain ⟨_, _, _, _, _, _, _, _, _, _, _, _, _, _, rfl, _⟩ := h; rfl)
  case run =>
    obtain ⟨v, u, A0, o, ds, rfl, hA, hv, hu, vh, k⟩ := h
    refine ⟨_, (pss_cons (ps_if (pt_cmpR op_gt (pe_callB call_len_seq (by rfl) B.len (by decide +kernel) (pa_cons (pv 1) pa_nil)) (pe_gint (by rfl) T.g_MOST_HEAD) (nomark _)) (pss_one ps_never) pss_nil)
      (pss_cons (ps_set (i := 2) sc__lowest_head.nd rfl (Or.inl rfl) (pe_lst pa_nil))
      (pss_cons (ps_for PassesOwn.never rfl (pi_enumT (by rfl) B.enumerate (pa_cons (pv 1) pa_nil)) (pg_tup (by rfl) (pgs_cons (pg_name (i := 3) sc__lowest_head.nd rfl (Or.inl rfl)) (pgs_cons (pg_name (i := 4) sc__lowest_head.nd rfl (Or.inl rfl)) pgs_nil))) (pss_cons (ps_if (pt_not (pt_val (pe_c C__is_next_mark hr (by decide) (by rfl) (pa_cons (pv 4) (pa_cons (pv 2) pa_nil))))) (pss_one ps_never) pss_nil)
      (pss_one (ps_expr (pe_bm PySem.F.plainAttrs_list PySem.F.slot_list_append PySem.F.type_list_append mt_append (pv 2) (pa_cons (pe_c C_lowest hr (by decide) (by rfl) (pa_cons (pv 4) pa_nil)) pa_nil))))))
      (pss_cons (ps_if (PW.pt (pw_and (pt_truth (pv 2) (by intro _; rfl)) (pw_and1 (pt_not (pt_val (pe_c C_is_less hr (by decide) (by rfl) (pa_cons (pe_ix ix_seq (pv 2) (pe_un un_neg pe_int) (fun _ _ => rfl)) (pa_cons (pe_c C__plain_mark hr (by decide) (by rfl) (pa_cons (pv 0) (pa_cons (pe_callB call_len_seq (by rfl) B.len (by decide +kernel) (pa_cons (pv 2) pa_nil)) pa_nil))) pa_nil)))))))) (pss_one ps_never) pss_nil)
      (pss_one (ps_ret (pe_callTy call_tuple_of (by rfl) B.tuple (by decide +kernel) (pa_cons (pv 2) pa_nil)))))))), ?_⟩
    obtain ⟨a, ws, rfl, sq, all⟩ := is_tup hu
    have sq0 := sqT_full sq
    have wl : ws.length = ds.length := all.len
    -- if len(head) > MOST_HEAD
    refine ⟨_, rfl, a, ws, rfl, .inr sq0, _, _, rfl, rfl, _, rfl, ite2 (fun e => ?_) (fun _ => ?_)⟩
    · have e1 : (8 : Int) < ((ws.length : Nat) : Int) := of_decide_eq_true e
      have := vh.len
      omega
    -- marks = []
    refine ⟨Nat.zero_le _, fun l nl => ?_⟩
    have s1 : Same H (upd H l (.lst [])) := same_new nl
    have lA : l ∉ A0 := hA.out nl
    -- the loop
    refine ⟨_, rfl, a, ws, rfl, seqT_same s1 sq0, for_enumT (K := K) (a := a) (xs := ws) (fun i σ H2 => ∃ (x3 x4 : Option V) (ms : List V), σ = [some v, some (.ref a), some (.ref l), x3, x4] ∧ Same H H2 ∧ H2 l = some (.lst ms) ∧ Iss K (l :: A0) H2 ms (((ds.take i).map lowD).map encQ))
      ⟨none, none, [], rfl, s1, upd_same, DAll.nil⟩ (fun i σ H2 _ ⟨_, _, _, _, s2, _⟩ => seqT_same s2 sq0) ?_ ?_⟩
    · rintro i x σ H2 T0 hx ⟨x3, x4, ms, rfl, s2, el, hms⟩ nT
      obtain ⟨d, hd, hxd⟩ := all.get' hx
      have hil : i < ds.length := (List.getElem?_eq_some_iff.mp hd).1
      have hdm : d ∈ ds := List.mem_of_getElem? hd
      obtain ⟨nu, nsz, nsm⟩ := vh.num d hdm
      refine ⟨T0, _, rfl, .inl (.inl upd_same), rfl, _, _, rfl, x, [], rfl, rfl, ?_⟩
      have s3 : Same H2 (upd H2 T0 (.tup [.int (i : Nat), x])) := same_new nT
      have el3 := s3 _ _ el
      have hx3 : D K (upd H2 T0 (.tup [.int (i : Nat), x])) x d := D.same (s2.trans s3) (D.same hv_le hxd)
      have hms3 : DAll K (upd H2 T0 (.tup [.int (i : Nat), x])) ms (((ds.take i).map lowD).map encQ) := DAll.same s3 hms.full
      refine ⟨_, rfl, _, rfl, x, d, l, (ds.take i).map lowD, rfl, hx3, .lst' (.inl (.inl el3)) hms3, nsz, ?_, fun _ => small200 nsm, fun H4 s4 => ⟨_, rfl, ?_⟩⟩
      · intro m hm
        obtain ⟨d', hd', rfl⟩ := List.mem_map.mp hm
        exact small200 (vh.num d' (List.mem_of_mem_take hd')).2.2
      rw [vh.next i d hd]
      have el4 := s4 _ _ el3
      refine ⟨_, rfl, .inl ⟨rfl, _, .inl (.inl el4)⟩, _, rfl, x, d, rfl, D.same s4 hx3, nu, nsz, fun p H5 s5 np ep => ?_⟩
      have el5 := s5 _ _ el4
      have npl : p ≠ l := fun z => by rw [z, el4] at np; cases np
      have sH5 : Same H H5 := s2.trans (s3.trans (s4.trans s5))
      have npA : p ∉ A0 := fun z => by
        have h1 : H p ≠ none := hA p z
        cases q : H p with
        | none => exact h1 q
        | some u =>
          have : H4 p = some u := s4 _ _ (s3 _ _ (s2 _ _ q))
          rw [this] at np
          cases np
      have msl : ms.length < sizeLine := by
        have e1 := hms.len
        rw [List.length_map, List.length_map, List.length_take] at e1
        have := vh.len
        exact small1000 (by omega)
      refine ⟨l, ms, _, rfl, rfl, el5, msl, ?_⟩
      refine ⟨some (.int (i : Nat)), some x, ms ++ [.ref p], rfl, fun b ob e => ?_, upd_same, ?_⟩
      · rw [upd_ne (ne_of_none e nl)]
        exact sH5 _ _ e
      · have g25 : Go (l :: A0) H2 (upd H5 l (.lst (ms ++ [.ref p]))) := (Go.of (s3.trans (s4.trans s5))).trans (Go.chg (by simp))
        have e2 : ((ds.take (i + 1)).map lowD).map encQ = ((ds.take i).map lowD).map encQ ++ [encQ (lowD d)] := by
          rw [List.take_add_one, hd]
          simp
        rw [e2]
        refine iss_app (Iss.mono g25 hms) (DAll.cons (Is_Q ?_ ?_) DAll.nil)
        · simp [npl, npA]
        · rw [upd_ne npl]
          exact ep
    · rintro σ H2 ⟨x3, x4, ms, rfl, s2, el, hms⟩
      rw [wl, List.take_length] at hms
      have ml : ms.length = ds.length := by rw [hms.len, List.length_map, List.length_map]
      -- what follows the if
      have fin : ∀ H3, Same H2 H3 → ∀ p, H3 p = none → Q (.ref p) (upd H3 p (.tup ms)) := fun H3 s3 p np => by
        have hd3 : Hd A0 H3 := (Go.of (s2.trans s3)).held hA
        refine k _ _ ((s2.trans s3).trans (same_new np)) ?_
        refine is_new_tup hd3 np (Iss.mono (Go.of s3) (Iss.less hms))
      refine ⟨_, rfl, !ms.isEmpty, .inl ⟨ms, .inl (.inl el), rfl⟩, ?_⟩
      cases hg : (ds.map lowD).getLast? with
      | none =>
        have e0 : ds = [] := by
          have := List.getLast?_eq_none_iff.mp hg
          exact List.map_eq_nil_iff.mp this
        have em : ms = [] := List.length_eq_zero_iff.mp (by rw [ml, e0]; rfl)
        subst em
        exact ⟨_, rfl, l, [], rfl, .inl ⟨.inl (.inl el), fun p np => fin H2 (Same.refl _) p np⟩⟩
      | some m =>
        have hpos : 0 < ms.length := by
          rw [ml]
          cases ds with
          | nil => simp at hg
          | cons _ _ => simp
        have hne : ms ≠ [] := List.length_pos_iff.mp hpos
        have hb : (!ms.isEmpty) = true := by
          cases ms with
          | nil => exact absurd rfl hne
          | cons _ _ => rfl
        rw [hb]
        have em : ((ds.map lowD).map encQ)[ms.length - 1]? = some (encQ m) := by
          have z : ms.length = (ds.map lowD).length := by rw [ml, List.length_map]
          rw [z, List.getElem?_map, ← List.getLast?_eq_getElem?, hg]
          rfl
        obtain ⟨y, ey, hy⟩ := iss_get hms em
        have ea : atI ms (-1) = some y := by
          have hz : ms = ms.dropLast ++ [ms.getLast hne] := (List.dropLast_concat_getLast hne).symm
          have e2 : ms.getLast hne = y := by
            rw [← List.getLast?_eq_getElem?, List.getLast?_eq_getLast hne] at ey
            exact Option.some.inj ey
          rw [hz, e2]
          exact atI_last _ _
        have hmm : m ∈ ds.map lowD := List.mem_of_getLast? hg
        obtain ⟨dm, hdm, rfl⟩ := List.mem_map.mp hmm
        have hlast := vh.last _ hg
        refine ⟨_, rfl, _, rfl, .inl ⟨l, ms, -1, y, rfl, rfl, .inl (.inl el), ea, ?_⟩⟩
        refine ⟨_, rfl, _, rfl, l, ms, rfl, .inl (.inl (.inl el)), v, o, ((ms.length : Nat) : Int), rfl, D.same s2 hv.full, ?_, Nat.lt_trans vh.o2.2 (by decide +kernel), fun p np => ?_⟩
        · have := vh.len
          exact Nat.lt_of_le_of_lt (show (((ms.length : Nat) : Int)).natAbs ≤ 8 by omega) (by decide +kernel)
        refine ⟨y, .ref p, lowD dm, plainQ o ((ms.length : Nat) : Int), rfl, D.same (same_new np) hy.full, D_Q upd_same, small200 (vh.num dm hdm).2.2, ?_, ?_⟩
        · have h1 := vh.o2
          have h2 := vh.len
          refine small200' ?_ ?_
          · show (o.1 + ((ms.length : Nat) : Int) * o.2).natAbs < 2 ^ 300
            have := plain_small (o := o) (n := ms.length) h1 (by omega)
            exact this
          · exact Nat.lt_trans h1.2 (by decide +kernel)
        rw [ml]
        rw [show decide (ltQ (lowD dm) (plainQ o ((ds.length : Nat) : Int))) = true from decide_eq_true hlast]
        refine ⟨_, rfl, ?_⟩
        exact ⟨_, rfl, l, ms, rfl, .inl ⟨.inl (.inl ((same_new np) _ _ el)), fun p' np' => fin _ (same_new np) p' np'⟩⟩
def markQ (o : Int × Int) (hd : List (Int × Int)) (n : Int) : Int × Int := if n < ((hd.length : Nat) : Int) then hd.getD n.toNat (0, 1) else plainQ o n
def sp_Rule_mark (K : PySem.W.Frag) (c : Addr) : Sp := fun vs H Q _ => ∃ (r dx : Addr) (fs : List (Str × V)) (v0 v1 : V) (A : List Addr) (o : Int × Int) (hd : List (Int × Int)) (n : Int), vs = [.ref r, .int n] ∧
  H r = some (.ins c dx fs) ∧ fs.lookup ("offset" : Str) = some v0 ∧ fs.lookup ("head" : Str) = some v1 ∧ Hd A H ∧ Is K A H v0 (encQ o) ∧ Is K A H v1 (.tuple (hd.map encQ)) ∧ 0 ≤ n ∧ n.natAbs < 2 ^ 8000 ∧ o.2.natAbs < 2 ^ 8000 ∧
  ∀ v H', Same H H' → Is K A H' v (encQ (markQ o hd n)) → Q v H'
theorem met_Rule_mark {f : Addr} {fd : FuncData} (B : Bl mg) (T : Tx K mg c) (F : Fun K "mark" "Rule.mark" s_Rule_mark f fd) (me : Meth K c "mark" f) (C__plain_mark : Cal P w K mg base 1 "_plain_mark" (sp__plain_mark K c) []) (C_is_count : Cal P w K mg base 2 "is_count" (sp_is_count K c) [])  : Met P w K mg base 3 c "mark" (sp_Rule_mark K c) ∧ FnOk P w K mg base CX0 3 f fd ["self", "number"] (sp_Rule_mark K c) := by
  refine (fun Ok => ⟨⟨f, fd, ["self", "number"], T.cl, me, Ok, F.binds (fun _ _ _ _ _ _ us hl => match us, hl with | [_, _], _ => rfl)⟩, Ok⟩) (F.ok sc_Rule_mark (fun vs H Q E h => ?len) (fun cdv A outer s H vs Q E hr h => ?run))
  case len => first | (obtain ⟨_, rfl, _⟩ := h; rfl) | (obtain ⟨_, _, rfl, _⟩ := h; rfl) | (obtain ⟨_, _, _, rfl, _⟩ := h; rfl) | (obtain ⟨_, _, _, _, rfl, _⟩ := h; rfl) | (obtain ⟨_, _, _, _, _, rfl, _⟩ := h; rfl) | (obtain ⟨_, _, _, _, _, _, rfl, _⟩ := h; rfl) | (obtain ⟨_, _, _, _, _, _, _, rfl, _⟩ := h; rfl) | (obtain ⟨_, _, _, _, _, _, _, _, rfl, _⟩ := h; rfl) | (obtain ⟨_, _, _, _, _, _, _, _, _, rfl, _⟩ := h; rfl) | (obtain ⟨_, _, _, _, _, _, _, _, _, _, rfl, _⟩ := h; rfl) | (obtain ⟨_, _, _, _, _, _, _, _, _, _, _, rfl, _⟩ := h; rfl) | (obtain ⟨_, _, _, _, _, _, _, _, _, _, _, _, rfl, _⟩ := h; rfl) | (obtain ⟨_, _, _, _, _, _, _, _, _, _, _, _, _, rfl, _⟩ := h; rfl) | (obtain ⟨_, _, _, _, _, _, _, _, _, _, _, _, _, _, rfl, _⟩ := h; rfl)
  case run =>
    obtain ⟨r, dx, fs, v0, v1, A0, o, hd, n, rfl, er, l0, l1, hA, h0, h1, n0, nz, oz, k⟩ := h
    refine ⟨_, (pss_cons (ps_if (pt_not (pt_val (pe_c C_is_count hr (by decide) (by rfl) (pa_cons (pv 1) pa_nil)))) (pss_one ps_never) pss_nil)
      (pss_cons (ps_if (pt_cmpR op_lt (pv 1) (pe_callB call_len_seq (by rfl) B.len (by decide +kernel) (pa_cons (pe_fld (pv 0) rfl) pa_nil)) (nomark _)) (pss_one (ps_ret (pe_ix ix_seq (pe_fld (pv 0) rfl) (pv 1) (fun _ _ => rfl)))) pss_nil)
      (pss_one (ps_ret (pe_c C__plain_mark hr (by decide) (by rfl) (pa_cons (pe_fld (pv 0) rfl) (pa_cons (pv 1) pa_nil))))))), ?_⟩
    have hc : isCountD (.int n) = true := decide_eq_true (show n ≥ 0 from n0)
    refine ⟨_, rfl, .int n, .int n, rfl, .int n, _, rfl, ?_⟩
    rw [hc]
    obtain ⟨a, ws, rfl, sq, all⟩ := is_tup h1
    have wl : ws.length = hd.length := by rw [all.len, List.length_map]
    refine ⟨_, rfl, _, rfl, r, c, dx, fs, _, rfl, er, T.cl, T.nH, l1, a, ws, rfl, .inr (sqT_full sq), _, _, rfl, rfl, _, rfl, ite2 (fun e => ?_) (fun e => ?_)⟩
    · have e1 : n < ((ws.length : Nat) : Int) := of_decide_eq_true e
      have hi : n.toNat < hd.length := by omega
      have z : markQ o hd n = hd[n.toNat] := by
        unfold markQ
        rw [if_pos (by omega)]
        simp [List.getD, hi]
      rw [z] at k
      refine ⟨_, rfl, r, c, dx, fs, _, rfl, er, T.cl, T.nH, l1, _, rfl, ?_⟩
      exact rd_tup h1 n0 (d := encQ hd[n.toNat]) (by rw [List.getElem?_map, List.getElem?_eq_getElem hi]; rfl) fun u hu => k u H (Same.refl H) hu
    · have e1 : ¬ n < ((ws.length : Nat) : Int) := fun z => e (decide_eq_true z)
      have z : markQ o hd n = plainQ o n := by
        unfold markQ
        rw [if_neg (by omega)]
      rw [z] at k
      refine ⟨_, rfl, r, c, dx, fs, _, rfl, er, T.cl, T.nO, l0, _, rfl, v0, o, n, rfl, h0.full, nz, oz, fun p np => ?_⟩
      exact k _ _ (same_new np) (Is_Q (hA.out np) upd_same)
end

/-! ### the program: the unit of a rule -/
theorem dall_cons {K : PySem.W.Frag} {H : Hp} {vs : List V} {d : PyData} {ds : List PyData} (h : DAll K H vs (d :: ds)) : ∃ v ws, vs = v :: ws ∧ D K H v d ∧ DAll K H ws ds := by
  obtain ⟨v, ws, e, h1, h2⟩ := iss_cons (A := []) h.is
  exact ⟨v, ws, e, h1.full, h2.full⟩
theorem lowD_pos {d : PyData} (h : isNumD d = true) : 0 < (lowD d).2 := by
  have key : ∀ a b : Int, 0 < b → 0 < (lowQ a b).2 := fun a b hb => by
    have g0 : 0 < Nat.gcd a.natAbs b.natAbs := Nat.gcd_pos_of_pos_right _ (by omega)
    have g1 : Nat.gcd a.natAbs b.natAbs ≤ b.natAbs := Nat.gcd_le_right _ (by omega)
    show 0 < b / ((Nat.gcd a.natAbs b.natAbs : Nat) : Int)
    exact Int.ediv_pos_of_pos_of_dvd hb (by omega) (Int.natAbs_dvd_natAbs.mp (by rw [Int.natAbs_natCast]; exact Nat.gcd_dvd_right _ _))
  match d, h with
  | .int i, _ => exact Int.one_pos
  | .tuple [.int a, .int b], h => exact key a b (by have := of_decide_eq_true (show decide (b ≥ 1) = true from h); omega)
/-- the least number of which all bottoms are divisors -/
def lcmN (ps : List (Int × Int)) : Nat := ps.foldl (fun a q => Nat.lcm a q.2.natAbs) 1
theorem lcmN_app (ps : List (Int × Int)) (q : Int × Int) : lcmN (ps ++ [q]) = Nat.lcm (lcmN ps) q.2.natAbs := by
  unfold lcmN
  rw [List.foldl_append]
  rfl
theorem lcmN_lt : ∀ (n : Nat) (ps : List (Int × Int)), ps.length = n → (∀ q ∈ ps, q.2.natAbs < 2 ^ 200) → lcmN ps < 2 ^ (200 * n + 1)
  | 0, ps, e, _ => by
    obtain rfl := List.length_eq_zero_iff.mp e
    show (1 : Nat) < 2 ^ (200 * 0 + 1)
    decide
  | n + 1, ps, e, h => by
    have ne : ps ≠ [] := fun z => by rw [z] at e; simp at e
    have z : ps = ps.dropLast ++ [ps.getLast ne] := (List.dropLast_concat_getLast ne).symm
    have ih := lcmN_lt n ps.dropLast (by rw [List.length_dropLast, e]; rfl) fun q hq => h q ((List.dropLast_prefix _).subset hq)
    have hl := h _ (List.getLast_mem ne)
    rw [z, lcmN_app]
    refine Nat.lt_of_le_of_lt (lcm_le _ _) (Nat.lt_of_lt_of_le (Nat.mul_lt_mul'' ih hl) ?_)
    rw [← Nat.pow_add]
    exact Nat.pow_le_pow_right (by
          decide) (by omega)
theorem lcmN_pos : ∀ (n : Nat) (ps : List (Int × Int)), ps.length = n → (∀ q ∈ ps, 0 < q.2) → 0 < lcmN ps
  | 0, ps, e, _ => by
    obtain rfl := List.length_eq_zero_iff.mp e
    exact Nat.one_pos
  | n + 1, ps, e, h => by
    have ne : ps ≠ [] := fun z => by rw [z] at e; simp at e
    have z : ps = ps.dropLast ++ [ps.getLast ne] := (List.dropLast_concat_getLast ne).symm
    have ih := lcmN_pos n ps.dropLast (by rw [List.length_dropLast, e]; rfl) fun q hq => h q ((List.dropLast_prefix _).subset hq)
    have hl := h _ (List.getLast_mem ne)
    rw [z, lcmN_app]
    exact Nat.lcm_pos ih (by omega)
theorem lcmN_dvd : ∀ (n : Nat) (ps : List (Int × Int)), ps.length = n → ∀ q ∈ ps, q.2.natAbs ∣ lcmN ps
  | 0, ps, e, q, hq => by
    obtain rfl := List.length_eq_zero_iff.mp e
    cases hq
  | n + 1, ps, e, q, hq => by
    have ne : ps ≠ [] := fun z => by rw [z] at e; simp at e
    have z : ps = ps.dropLast ++ [ps.getLast ne] := (List.dropLast_concat_getLast ne).symm
    have ih := lcmN_dvd n ps.dropLast (by rw [List.length_dropLast, e]; rfl) q
    rw [z] at hq ⊢
    rw [lcmN_app]
    rcases List.mem_append.mp hq
          with hq | hq
    · exact Nat.dvd_trans (ih hq) (Nat.dvd_lcm_left _ _)
    · rw [List.mem_singleton.mp
          hq]
      exact Nat.dvd_lcm_right _ _
theorem lcmN_8000 {ps : List (Int × Int)} (l : ps.length ≤ 16) (h : ∀ q ∈ ps, q.2.natAbs < 2 ^ 200) : lcmN ps < 2 ^ 3201 :=
  Nat.lt_of_lt_of_le (lcmN_lt _ ps rfl h) (Nat.pow_le_pow_right (by decide) (by omega))
section
variable {P : Program} {w : World} {K : PySem.W.Frag} {mg : Str → Option Value} {base : Heap} {c : Addr}
def sp_common_bottom (K : PySem.W.Frag) (c : Addr) : Sp := fun vs H Q _ => ∃ (l : Addr) (A : List Addr) (ps : List (Int × Int)), vs = [.ref l] ∧ Is K A H (.ref l) (.list (ps.map encQ)) ∧ ps.length ≤ 16 ∧ (∀ q ∈ ps, q.2.natAbs < 2 ^ 200) ∧
  Q (.int ((lcmN ps : Nat) : Int)) H
theorem cal_common_bottom (B : Bl mg) (DD : OwnDef K mg "common_bottom" s_common_bottom)  (T : Tx K mg c) : Cal P w K mg base 1 "common_bottom" (sp_common_bottom K c) [] := by
  obtain ⟨f, fd, F, hm⟩ := DD.ex
  refine ⟨f, fd, ["pairs"], [], F.ok sc_common_bottom (fun vs H Q E h => ?len) (fun cdv A outer s H vs Q E hr h => ?run), hm, F.kp, F.binds (fun _ _ _ _ _ _ us hl => match us, hl with | [_], _ => rfl), .nil⟩
  case len => first | (obtain ⟨_, rfl, _⟩ := h; rfl) | (obtain ⟨_, _, rfl, _⟩ := h; rfl) | (obtain ⟨_, _, _, rfl, _⟩ := h; rfl) | (obtain ⟨_, _, _, _, rfl, _⟩ := h; rfl) | (obtain ⟨_, _, _, _, _, rfl, _⟩ := h; rfl) | (obtain ⟨_, _, _, _, _, _, rfl, _⟩ := h; rfl) | (obtain ⟨_, _, _, _, _, _, _, rfl, _⟩ := h; rfl) | (obtain ⟨_, _, _, _, _, _, _, _, rfl, _⟩ := h; rfl) | (obtain ⟨_, _, _, _, _, _, _, _, _, rfl, _⟩ := h; rfl) | (obtain ⟨_, _, _, _, _, _, _, _, _, _, rfl, _⟩ := h; rfl) | (obtain ⟨_, _, _, _, _, _, _, _, _, _, _, rfl, _⟩ := h; rfl) | (obtain ⟨_, _, _, _, _, _, _, _, _, _, _, _, rfl, _⟩ := h; rfl) | (obtain ⟨_, _, _, _, _, _, _, _, _, _, _, _, _, rfl, _⟩ := h; rfl) | (obtain ⟨_, _, _, _, _, _, _, _, _, _, _, _, _, _, rfl, _⟩ := h; rfl)
  case run =>
    obtain ⟨l, A0, ps, rfl, hl, ln, sz, k⟩ := h
    refine ⟨_, (pss_cons (ps_set (i := 1) sc_common_bottom.nd rfl (Or.inl rfl) pe_int)
      (pss_cons (ps_for PassesOwn.never rfl (pi_list (pv 0)) (pg_tup (by rfl) (pgs_cons (pg_name (i := 2) sc_common_bottom.nd rfl (Or.inl rfl)) (pgs_cons (pg_name (i := 3) sc_common_bottom.nd rfl (Or.inl rfl)) pgs_nil))) (pss_one (ps_set (i := 1) sc_common_bottom.nd rfl (Or.inl rfl) (pe_callBfun cr_lcm (by rfl) T.g_lcm (pa_cons (pv 1) (pa_cons (pv 3) pa_nil))))))
      (pss_one (ps_ret (pv 1))))), ?_⟩
    obtain ⟨a, ws, e, sq, all⟩ := hl.full.list
    cases e
    have wl : ws.length = ps.length := by rw [all.len, List.length_map]
    refine ⟨_, rfl, _, rfl, ⟨_, sq⟩, ?_⟩
    refine for_list (K := K) (a := l) (xs := ws) (fun i σ H2 => H2 = H ∧ ∃ (x2 x3 : Option V), σ = [some (.ref l), some (.int ((lcmN (ps.take i) : Nat) : Int)), x2, x3])
      ⟨rfl, none, none, rfl⟩ (fun i σ H2 _ ⟨e, _⟩ => by rw [e]; exact sq) ?_ ?_
    · rintro i x σ H2 hx ⟨rfl, x2, x3, rfl⟩
      obtain ⟨d, hd, hxd⟩ := all.get' hx
      obtain ⟨q, hq, rfl⟩ := some_map hd
      have qm : q ∈ ps := List.mem_of_getElem? hq
      obtain ⟨b8, us8, rfl, sq8, all8⟩ := hxd.tuple
      obtain ⟨u1, us1, rfl, hu1, all8⟩ := dall_cons all8
      obtain ⟨u2, us2, rfl, hu2, all8⟩ := dall_cons all8
      obtain rfl : us2 = [] := List.length_eq_zero_iff.mp all8.len
      obtain rfl := hu1.int_eq
      obtain rfl := hu2.int_eq
      refine ⟨b8, _, rfl, sq8, rfl, _, _, rfl, _, [], rfl, rfl, ?_⟩
      have z1 : (((lcmN (ps.take i) : Nat) : Int)).natAbs < 2 ^ 8000 := by
        rw [Int.natAbs_natCast]
        exact Nat.lt_trans (lcmN_8000 (by rw [List.length_take]; omega) fun q hq => sz q (List.mem_of_mem_take hq)) (by decide +kernel)
      have z2 : q.2.natAbs < 2 ^ 8000 := Nat.lt_trans (sz q qm) (by decide +kernel)
      refine ⟨_, rfl, _, rfl, _, _, rfl, z1, z2, rfl, some (.int q.1), some (.int q.2), ?_⟩
      rw [List.take_add_one, hq, Option.toList, lcmN_app, Int.natAbs_natCast]
      rfl
    · rintro σ H2 ⟨rfl, x2, x3, rfl⟩
      rw [wl, List.take_length]
      exact ⟨_, rfl, k⟩
end

/-! ### the program: a rule is made -/
section
variable {P : Program} {w : World} {K : PySem.W.Frag} {mg : Str → Option Value} {base : Heap} {c : Addr}
/-- the fields of a rule -/
abbrev rFs (v0 v1 : V) (u : Int) (v3 : V) (x : Int) (v2 : V) : List (Str × V) := [("offset", v0), ("head", v1), ("unit", .int u), ("_whole_head", v3), ("whole_offset", .int x), ("_start", v2)]
/-- its unit -/
def unitQ (o : Int × Int) (hd : List (Int × Int)) : Int := ((lcmN (o :: hd) : Nat) : Int)
/-- a number times the unit -/
def timesQ (u : Int) (q : Int × Int) : Int := q.1 * (u / q.2)
/-- a rule stands at r -/
structure RuleAt (K : PySem.W.Frag) (c : Addr) (A : List Addr) (H : Hp) (r : Addr) (o : Int × Int) (hd : List (Int × Int)) : Prop where
  ex : ∃ (dx : Addr) (v0 v1 v2 v3 : V), H r = some (.ins c dx (rFs v0 v1 (unitQ o hd) v3 (timesQ (unitQ o hd) o) v2)) ∧ Is K A H v0 (encQ o) ∧ Is K A H v1 (.tuple (hd.map encQ)) ∧
    Is K A H v2 (.tuple ((List.range 8).map fun i => encQ (markQ o hd ((i : Nat) : Int)))) ∧ Is K A H v3 (.list (hd.map fun q => .int (timesQ (unitQ o hd) q)))
theorem RuleAt.same {A : List Addr} {H H' : Hp} {r : Addr} {o : Int × Int} {hd : List (Int × Int)} (R : RuleAt K c A H r o hd) (s : Same H H') : RuleAt K c A H' r o hd := by
  obtain ⟨dx, v0, v1, v2, v3, e, h0, h1, h2, h3⟩ := R.ex
  exact ⟨dx, v0, v1, v2, v3, s _ _ e, Is.mono (Go.of s) h0, Is.mono (Go.of s) h1, Is.mono (Go.of s) h2, Is.mono (Go.of s) h3⟩
theorem RuleAt.go {A : List Addr} {H H' : Hp} {r : Addr} {o : Int × Int} {hd : List (Int × Int)} (R : RuleAt K c A H r o hd) (hr : r ∉ A) (s : Go A H H') : RuleAt K c A H' r o hd := by
  obtain ⟨dx, v0, v1, v2, v3, e, h0, h1, h2, h3⟩ := R.ex
  exact ⟨dx, v0, v1, v2, v3, s.keep _ _ hr e, Is.mono s h0, Is.mono s h1, Is.mono s h2, Is.mono s h3⟩
theorem put1 (v0 : V) : putF "offset" v0 [] = ([("offset", v0)] : List (Str × V)) := rfl
theorem kOH : ¬ (("offset" : Str) = "head") := by decide +kernel
theorem kOU : ¬ (("offset" : Str) = "unit") := by decide +kernel
theorem kOW : ¬ (("offset" : Str) = "_whole_head") := by decide +kernel
theorem kOX : ¬ (("offset" : Str) = "whole_offset") := by decide +kernel
theorem kOS : ¬ (("offset" : Str) = "_start") := by decide +kernel
theorem kHU : ¬ (("head" : Str) = "unit") := by decide +kernel
theorem kHW : ¬ (("head" : Str) = "_whole_head") := by decide +kernel
theorem kHX : ¬ (("head" : Str) = "whole_offset") := by decide +kernel
theorem kHS : ¬ (("head" : Str) = "_start") := by decide +kernel
theorem kUW : ¬ (("unit" : Str) = "_whole_head") := by decide +kernel
theorem kUX : ¬ (("unit" : Str) = "whole_offset") := by decide +kernel
theorem kUS : ¬ (("unit" : Str) = "_start") := by decide +kernel
theorem kWX : ¬ (("_whole_head" : Str) = "whole_offset") := by decide +kernel
theorem kWS : ¬ (("_whole_head" : Str) = "_start") := by decide +kernel
theorem kXS : ¬ (("whole_offset" : Str) = "_start") := by decide +kernel
theorem kOM : ¬ (("mark" : Str) = "offset") := by decide +kernel
theorem kHM : ¬ (("mark" : Str) = "head") := by decide +kernel
theorem kUM : ¬ (("mark" : Str) = "unit") := by decide +kernel
theorem kWM : ¬ (("mark" : Str) = "_whole_head") := by decide +kernel
theorem kXM : ¬ (("mark" : Str) = "whole_offset") := by decide +kernel
theorem kSM : ¬ (("mark" : Str) = "_start") := by decide +kernel
theorem put_cons {f g : Str} {v u : V} {r : List (Str × V)} (h : ¬ (f = g)) : putF g v ((f, u) :: r) = (f, u) :: putF g v r := by
  show (if f = g then _ else _) = _
  rw [if_neg h]
theorem put2 (v0 v1 : V) : putF "head" v1 ([("offset", v0)] : List (Str × V)) = ([("offset", v0), ("head", v1)] : List (Str × V)) := by
  rw [put_cons kOH]
  rfl
theorem put3 (v0 v1 v2 : V) : putF "unit" v2 ([("offset", v0), ("head", v1)] : List (Str × V)) = ([("offset", v0), ("head", v1), ("unit", v2)] : List (Str × V)) := by
  rw [put_cons kOU, put_cons kHU]
  rfl
theorem put4 (v0 v1 v2 v3 : V) : putF "_whole_head" v3 ([("offset", v0), ("head", v1), ("unit", v2)] : List (Str × V)) = ([("offset", v0), ("head", v1), ("unit", v2), ("_whole_head", v3)] : List (Str × V)) := by
  rw [put_cons kOW, put_cons kHW, put_cons kUW]
  rfl
theorem put5 (v0 v1 v2 v3 v4 : V) : putF "whole_offset" v4 ([("offset", v0), ("head", v1), ("unit", v2), ("_whole_head", v3)] : List (Str × V)) = ([("offset", v0), ("head", v1), ("unit", v2), ("_whole_head", v3), ("whole_offset", v4)] : List (Str × V)) := by
  rw [put_cons kOX, put_cons kHX, put_cons kUX, put_cons kWX]
  rfl
theorem put6 (v0 v1 v2 v3 v4 v5 : V) : putF "_start" v5 ([("offset", v0), ("head", v1), ("unit", v2), ("_whole_head", v3), ("whole_offset", v4)] : List (Str × V)) = ([("offset", v0), ("head", v1), ("unit", v2), ("_whole_head", v3), ("whole_offset", v4), ("_start", v5)] : List (Str × V)) := by
  rw [put_cons kOS, put_cons kHS, put_cons kUS, put_cons kWS, put_cons kXS]
  rfl
theorem lk_cons {f g : Str} {v : V} {r : List (Str × V)} : ((g, v) :: r).lookup f = if f = g then some v else r.lookup f := by
  by_cases h : f = g
  · subst h; simp
  · rw [if_neg h]
    have : (f == g) = false := by simpa using h
    simp [List.lookup, this]
theorem lkO (v0 : V) (r : List (Str × V)) : ((("offset" : Str), v0) :: r).lookup ("offset" : Str) = some v0 := by
  rw [lk_cons, if_pos rfl]
theorem lkH (v0 v1 : V) (r : List (Str × V)) : ((("offset" : Str), v0) :: (("head" : Str), v1) :: r).lookup ("head" : Str) = some v1 := by
  rw [lk_cons, if_neg (fun z => kOH z.symm), lk_cons, if_pos rfl]
theorem lkU (v0 v1 v2 : V) (r : List (Str × V)) : ((("offset" : Str), v0) :: (("head" : Str), v1) :: (("unit" : Str), v2) :: r).lookup ("unit" : Str) = some v2 := by
  rw [lk_cons, if_neg (fun z => kOU z.symm), lk_cons, if_neg (fun z => kHU z.symm), lk_cons, if_pos rfl]
theorem lkW (v0 v1 v2 v3 : V) (r : List (Str × V)) : ((("offset" : Str), v0) :: (("head" : Str), v1) :: (("unit" : Str), v2) :: (("_whole_head" : Str), v3) :: r).lookup ("_whole_head" : Str) = some v3 := by
  rw [lk_cons, if_neg (fun z => kOW z.symm), lk_cons, if_neg (fun z => kHW z.symm), lk_cons, if_neg (fun z => kUW z.symm), lk_cons, if_pos rfl]
theorem lkX (v0 v1 v2 v3 v4 : V) (r : List (Str × V)) : ((("offset" : Str), v0) :: (("head" : Str), v1) :: (("unit" : Str), v2) :: (("_whole_head" : Str), v3) :: (("whole_offset" : Str), v4) :: r).lookup ("whole_offset" : Str) = some v4 := by
  rw [lk_cons, if_neg (fun z => kOX z.symm), lk_cons, if_neg (fun z => kHX z.symm), lk_cons, if_neg (fun z => kUX z.symm), lk_cons, if_neg (fun z => kWX z.symm), lk_cons, if_pos rfl]
theorem lkS (v0 v1 v2 v3 v4 v5 : V) (r : List (Str × V)) : ((("offset" : Str), v0) :: (("head" : Str), v1) :: (("unit" : Str), v2) :: (("_whole_head" : Str), v3) :: (("whole_offset" : Str), v4) :: (("_start" : Str), v5) :: r).lookup ("_start" : Str) = some v5 := by
  rw [lk_cons, if_neg (fun z => kOS z.symm), lk_cons, if_neg (fun z => kHS z.symm), lk_cons, if_neg (fun z => kUS z.symm), lk_cons, if_neg (fun z => kWS z.symm), lk_cons, if_neg (fun z => kXS z.symm), lk_cons, if_pos rfl]
theorem lkM {v0 v1 v3 v5 : V} {u x : Int} : (rFs v0 v1 u v3 x v5).lookup ("mark" : Str) = none := by
  show List.lookup _ [_, _, _, _, _, _] = _
  rw [lk_cons, if_neg kOM, lk_cons, if_neg kHM, lk_cons, if_neg kUM, lk_cons, if_neg kWM, lk_cons, if_neg kXM, lk_cons, if_neg kSM]
  rfl
/-- Rule.__init__(self, offset, *head), at good ones -/
def sp_Rule_init (K : PySem.W.Frag) (c : Addr) : Sp := fun vs H Q _ => ∃ (r dx : Addr) (v : V) (t : Addr) (A : List Addr) (d : PyData) (ds : List PyData), vs = [.ref r, v, .ref t] ∧ H r = some (.ins c dx []) ∧ r ∉ A ∧ Hd A H ∧ Is K (r :: A) H v d ∧
  Is K (r :: A) H (.ref t) (.tuple ds) ∧ isOffD d = true ∧ (∀ a b, d = encQ (a, b) → b.natAbs < 2 ^ 8000) ∧ VH (lowD d) ds ∧
  ∀ H', (∀ b o, b ≠ r → H b = some o → H' b = some o) → RuleAt K c A H' r (lowD d) (ds.map lowD) → Q .non H'
theorem rd_Rule_init {f : Addr} {cdv : Value} {Ar : Around} {outer : List Env} {s : Shared} {H : Hp} {vs : List V} {Q : VK} {E : XK} (B : Bl mg) (T : Tx K mg c)
    (C__is_offset : Cal P w K mg base 3 "_is_offset" (sp__is_offset K c) []) (C_lowest : Cal P w K mg base 2 "lowest" (sp_lowest K c) [])
    (C__lowest_head : Cal P w K mg base 4 "_lowest_head" (sp__lowest_head K c) []) (C_common_bottom : Cal P w K mg base 1 "common_bottom" (sp_common_bottom K c) []) (M_mark : Met P w K mg base 3 c "mark" (sp_Rule_mark K c))
    (hr : Room 6 (Ar.deeper (envOfC "Rule.__init__" (defScope s_Rule___init__) s.heap.objs.size f cdv))) (h : sp_Rule_init K c vs H Q E) :
    ∃ t, PSs (cxOf CX0 P w K mg base ["self", "offset", "head", "top", "bottom", "number"] "Rule.__init__" (defScope s_Rule___init__) f cdv Ar outer s H E).nox (defBody s_Rule___init__) t ∧
      t { nx := fun _ H' => Q .non H', rt := Q } (start ["self", "offset", "head", "top", "bottom", "number"] vs) H := by
  obtain ⟨r, dx, v, t, A, d, ds, rfl, er, rA, hA, hv, ht, ho, hsz, vh, k⟩ := h
  refine ⟨_, (pss_cons (ps_if (pt_not (pt_val (pe_c C__is_offset hr (by decide) (by rfl) (pa_cons (pv 1) pa_nil)))) (pss_one ps_never) pss_nil)
      (pss_cons (ps_fld (pv 0) (pe_c C_lowest hr (by decide) (by rfl) (pa_cons (pv 1) pa_nil)) rfl)
      (pss_cons (ps_fld (pv 0) (pe_c C__lowest_head hr (by decide) (by rfl) (pa_cons (pe_fld (pv 0) rfl) (pa_cons (pv 2) pa_nil))) rfl)
      (pss_cons (ps_fld (pv 0) (pe_c C_common_bottom hr (by decide) (by rfl) (pa_cons (pe_lst (pa_cons (pe_fld (pv 0) rfl) (pa_star (pe_fld (pv 0) rfl) pa_nil))) pa_nil)) rfl)
      (pss_cons (ps_fld (pv 0) (pe_lc (own := [("top", 3), ("bottom", 4)]) (by rfl) sc_Rule___init__.nd (pi_tup (pe_fld (pv 0) rfl)) (blkOk_by (own := [("top", 3), ("bottom", 4)]) (N := ["self", "offset", "head", "top", "bottom", "number"]) (sc := defScope s_Rule___init__) (by decide +kernel)) (fun _ _ _ _ _ => (show PG _ _ (gTup K 2 (gCons (gName 3) (gCons (gName 4) gNil))) from (pg_tup (by rfl) (pgs_cons (pg_name (i := 3) sc_Rule___init__.nd rfl (Or.inl rfl)) (pgs_cons (pg_name (i := 4) sc_Rule___init__.nd rfl (Or.inl rfl)) pgs_nil))))) (fun _ _ _ _ _ => pts_nil) (fun _ _ _ _ _ => (pe_op op_mulW (pv 3) (pe_op op_fdivW (show PE _ _ (tFld K (tVar 0) "unit") from pe_fld (pv 0) rfl) (pv 4))))) rfl)
      (pss_cons (ps_fld (pv 0) (pe_op op_mulW (pe_ix ix_seq (pe_fld (pv 0) rfl) pe_int (fun _ _ => rfl)) (pe_op op_fdivW (pe_fld (pv 0) rfl) (pe_ix ix_seq (pe_fld (pv 0) rfl) pe_int (fun _ _ => rfl)))) rfl)
      (pss_one (ps_fld (pv 0) (pe_callTy call_tuple_of (by rfl) B.tuple (by decide +kernel) (pa_cons (pe_lc (own := [("number", 5)]) (by rfl) sc_Rule___init__.nd (pi_range1 (by rfl) B.range (pa_cons (pe_gint (by rfl) T.g_MOST_HEAD) pa_nil)) (blkOk_by (own := [("number", 5)]) (N := ["self", "offset", "head", "top", "bottom", "number"]) (sc := defScope s_Rule___init__) (by decide +kernel)) (fun _ _ _ _ _ => (pg_name (i := 5) sc_Rule___init__.nd rfl (Or.inl rfl))) (fun _ _ _ _ _ => pts_nil) (fun _ _ _ _ _ => (pe_mt M_mark hr (by decide) (pv 0) (pa_cons (pv 5) pa_nil)))) pa_nil)) rfl)))))))), ?_⟩
  have hn : isNumD d = true := by
    unfold isOffD at ho
    rw [Bool.and_eq_true] at ho
    exact ho.1
  refine ⟨_, rfl, v, d, rfl, hv.full, hsz, fun H1 s1 => ⟨_, rfl, ?_⟩⟩
  rw [ho]
  refine ⟨_, rfl, v, d, rfl, D.same s1 hv.full, hn, hsz, fun p H2 s2 np ep => ?_⟩
  have s02 := s1.trans s2
  have er2 := s02 _ _ er
  have npr : p ≠ r := fun z => by rw [z, s1 _ _ er] at np; cases np
  refine ⟨_, rfl, r, c, dx, _, rfl, er2, T.cl, T.nO, (by show 0 < 1000; decide), ?_⟩
  rw [put1]
  -- self.head = _lowest_head(self.offset, head)
  have hA0 : Hd (r :: A) H := Hd.cons er hA
  have hA2 : Hd (r :: A) H2 := (Go.of s02).held hA0
  have pA : p ∉ A := fun z => by
    cases q : H p with
    | none => exact hA p z q
    | some u => rw [s1 _ _ q] at np; cases np
  have g3 : Go (r :: A) H2 (upd H2 r (.ins c dx [("offset", .ref p)])) := Go.chg (by simp)
  have hA3 := g3.held hA2
  have hp3 : Is K (r :: A) (upd H2 r (.ins c dx [("offset", .ref p)])) (.ref p) (encQ (lowD d)) := Is_Q (by simp [npr, pA]) (by rw [upd_ne npr]; exact ep)
  have ht3 : Is K (r :: A) (upd H2 r (.ins c dx [("offset", .ref p)])) (.ref t) (.tuple ds) := Is.mono ((Go.of s02).trans g3) ht
  refine ⟨_, rfl, r, c, dx, _, _, rfl, upd_same, T.cl, T.nO, lkO _ _, _, rfl, .ref p, .ref t, r :: A, lowD d, ds, rfl, hA3, hp3, ht3, vh, fun v1 H4 s4 hv1 => ?_⟩
  have er4 := s4 _ _ (upd_same (H := H2) (a := r) (o := .ins c dx [("offset", .ref p)]))
  refine ⟨_, rfl, r, c, dx, _, rfl, er4, T.cl, T.nH, (by show 1 < 1000; decide), ?_⟩
  rw [put2]
  have hA4 := (Go.of s4).held hA3
  have g5 : Go (r :: A) H4 (upd H4 r (.ins c dx [("offset", .ref p), ("head", v1)])) := Go.chg (by simp)
  have hA5 := g5.held hA4
  have hp5 := Is.mono ((Go.of s4).trans g5) hp3
  have hv5 := Is.mono g5 hv1
  have er5 : (upd H4 r (.ins c dx [("offset", .ref p), ("head", v1)])) r = some (.ins c dx [("offset", .ref p), ("head", v1)]) := upd_same
  have k5 : ∀ b ob, b ≠ r → H4 b = some ob → (upd H4 r (.ins c dx [("offset", .ref p), ("head", v1)])) b = some ob := fun b ob hb e => by rw [upd_ne hb]; exact e
  generalize (upd H4 r (.ins c dx [("offset", .ref p), ("head", v1)])) = H5 at g5 hA5 hp5 hv5 er5 k5 ⊢
  -- self.unit = common_bottom([self.offset, *self.head])
  obtain ⟨a1, ws1, rfl, sq1, all1⟩ := is_tup hv5
  have wl1 : ws1.length = ds.length := by rw [all1.len, List.length_map, List.length_map]
  have v8 := vh.len
  have numB : ∀ q ∈ lowD d :: ds.map lowD, 0 < q.2 ∧ q.1.natAbs < 2 ^ 200 ∧ q.2.natAbs < 2 ^ 200 := fun q hq => by
    rcases List.mem_cons.mp hq with e | hq
    · subst e
      exact ⟨lowD_pos hn, vh.o2.1, vh.o2.2⟩
    · obtain ⟨d', hd', rfl⟩ := List.mem_map.mp hq
      obtain ⟨nu, _, z1, z2⟩ := vh.num d' hd'
      exact ⟨lowD_pos nu, z1, z2⟩
  have hU : unitQ (lowD d) (ds.map lowD) = ((lcmN (lowD d :: ds.map lowD) : Nat) : Int) := rfl
  have U1 : (unitQ (lowD d) (ds.map lowD)).natAbs < 2 ^ 3201 := by
    rw [hU, Int.natAbs_natCast]
    exact lcmN_8000 (by rw [List.length_cons, List.length_map]; omega) fun q hq => (numB q hq).2.2
  have U0 : 0 ≤ unitQ (lowD d) (ds.map lowD) := by rw [hU]; exact Int.natCast_nonneg _
  have wq : ∀ q ∈ lowD d :: ds.map lowD, CDivW (unitQ (lowD d) (ds.map lowD)) q.2 ∧ CMulW q.1 (unitQ (lowD d) (ds.map lowD) / q.2) := fun q hq => by
    obtain ⟨b0, b1, b2⟩ := numB q hq
    refine ⟨wide_div b0 b2 (by decide) (by decide), wide_mul (b := 3201) b1 ?_ (by decide) (by decide) (by decide)⟩
    exact Nat.lt_of_le_of_lt (by
      have z0 : 0 ≤ unitQ (lowD d) (ds.map lowD) / q.2 := Int.ediv_nonneg U0 (by omega)
      have z1 : unitQ (lowD d) (ds.map lowD) / q.2 ≤ unitQ (lowD d) (ds.map lowD) := Int.ediv_le_self _ U0
      omega) U1
  generalize hUU : unitQ (lowD d) (ds.map lowD) = U at hU U1 U0 wq
  refine ⟨_, rfl, r, c, dx, _, _, rfl, er5, T.cl, T.nO, lkO _ _, _, rfl, r, c, dx, _, _, rfl, er5, T.cl, T.nH, lkH _ _ _, a1, ws1, rfl, .inl (sqT_full sq1), ⟨?_, fun l6 nl6 => ?_⟩⟩
  · rw [List.append_nil, List.length_cons]
    exact Nat.le_of_lt (small1000 (by omega))
  rw [List.append_nil]
  have g6 : Go (r :: A) H5 (upd H5 l6 (.lst (.ref p :: ws1))) := Go.new nl6
  have hl6 : Is K (r :: A) (upd H5 l6 (.lst (.ref p :: ws1))) (.ref l6) (.list ((lowD d :: ds.map lowD).map encQ)) := is_new_lst hA5 nl6 (DAll.cons hp5 all1)
  have s6 : Same H5 (upd H5 l6 (.lst (.ref p :: ws1))) := same_new nl6
  refine ⟨l6, r :: A, lowD d :: ds.map lowD, rfl, hl6, by rw [List.length_cons, List.length_map]; omega, fun q hq => (numB q hq).2.2, ?_⟩
  rw [← hU]
  have er6 := s6 _ _ er5
  have hA6 := g6.held hA5
  have hp6 := Is.mono g6 hp5
  have hv6 := Is.mono g6 hv5
  generalize (upd H5 l6 (.lst (.ref p :: ws1))) = H6 at g6 hl6 s6 er6 hA6 hp6 hv6 ⊢
  refine ⟨_, rfl, r, c, dx, _, rfl, er6, T.cl, T.nU, (by show 2 < 1000; decide), ?_⟩
  rw [put3]
  have g7 : Go (r :: A) H6 (upd H6 r (.ins c dx [("offset", .ref p), ("head", .ref a1), ("unit", .int U)])) := Go.chg (by simp)
  have hA7 := g7.held hA6
  have hp7 := Is.mono g7 hp6
  have hv7 := Is.mono g7 hv6
  have er7 : (upd H6 r (.ins c dx [("offset", .ref p), ("head", .ref a1), ("unit", .int U)])) r = some (.ins c dx [("offset", .ref p), ("head", .ref a1), ("unit", .int U)]) := upd_same
  have k7 : ∀ b ob, b ≠ r → H6 b = some ob → (upd H6 r (.ins c dx [("offset", .ref p), ("head", .ref a1), ("unit", .int U)])) b = some ob := fun b ob hb e => by rw [upd_ne hb]; exact e
  generalize (upd H6 r (.ins c dx [("offset", .ref p), ("head", .ref a1), ("unit", .int U)])) = H7 at g7 hA7 hp7 hv7 er7 k7 ⊢
  -- self._whole_head = [..]
  obtain ⟨a1', ws7, e7, sq7, all7⟩ := is_tup hv7
  cases e7
  have sq7f := sqT_full sq7
  have wl7 : ws7.length = ds.length := by rw [all7.len, List.length_map, List.length_map]
  refine ⟨_, rfl, r, c, dx, _, _, rfl, er7, T.cl, T.nH, lkH _ _ _, a1, rfl, ⟨_, sq7f⟩, fun D0 nD => ?_⟩
  refine lc_tup (K := K) (a := a1) (xs := ws7) (fun i H8 => Same H7 H8 ∧ H8 D0 = some (.lst (((ds.map lowD).take i).map fun q => V.int (timesQ U q)))) ⟨same_new nD, upd_same⟩ (fun i H8 _ ⟨s8, _⟩ => seqT_same s8 sq7f) ?_ ?_
  · rintro i y H8 hi ⟨s8, eD⟩
    obtain ⟨d', hd', hy⟩ := iss_get' all7 hi
    obtain ⟨q, hq, rfl⟩ := some_map hd'
    have qm : q ∈ lowD d :: ds.map lowD := List.mem_cons_of_mem _ (List.mem_of_getElem? hq)
    have hy8 := D.same s8 hy.full
    have er8 := s8 _ _ er7
    obtain ⟨wdq, wmq⟩ := wq q qm
    obtain ⟨b8, us8, rfl, sq8, all8⟩ := hy8.tuple
    obtain ⟨u1, us1, rfl, hu1, all8⟩ := dall_cons all8
    obtain ⟨u2, us2, rfl, hu2, all8⟩ := dall_cons all8
    obtain rfl : us2 = [] := List.length_eq_zero_iff.mp all8.len
    obtain rfl := hu1.int_eq
    obtain rfl := hu2.int_eq
    refine ⟨b8, _, rfl, sq8, rfl, _, _, rfl, _, [], rfl, rfl, ?_⟩
    refine ⟨rfl, _, rfl, _, rfl, r, c, dx, _, _, rfl, er8, T.cl, T.nU, lkU _ _ _ _, _, rfl, _, _, rfl, rfl, wdq, _, _, rfl, rfl, wmq, _, eD, ?_, fun b' o e => ?_, ?_⟩
    · rw [List.length_map, List.length_take, List.length_map]
      exact small1000 (by omega)
    · rw [upd_ne (ne_of_none e nD)]
      exact s8 _ _ e
    · rw [upd_same, List.take_add_one, hq, List.map_append]
      rfl
  rintro H8 ⟨s8, eD⟩
  rw [wl7, ← List.length_map (as := ds) (f := lowD), List.take_length] at eD
  have er8 := s8 _ _ er7
  refine ⟨_, rfl, r, c, dx, _, rfl, er8, T.cl, T.nW, (by show 3 < 1000; decide), ?_⟩
  rw [put4]
  have nDr : D0 ≠ r := fun z => by rw [z, er7] at nD; cases nD
  have D0A : D0 ∉ r :: A := hA7.out nD
  have g9 : Go (r :: A) H8 (upd H8 r (.ins c dx [("offset", .ref p), ("head", .ref a1), ("unit", .int U), ("_whole_head", .ref D0)])) := Go.chg (by simp)
  have hA8 := (Go.of s8).held hA7
  have hA9 := g9.held hA8
  have hp9 := Is.mono ((Go.of s8).trans g9) hp7
  have hv9 := Is.mono ((Go.of s8).trans g9) hv7
  have er9 : (upd H8 r (.ins c dx [("offset", .ref p), ("head", .ref a1), ("unit", .int U), ("_whole_head", .ref D0)])) r = some (.ins c dx [("offset", .ref p), ("head", .ref a1), ("unit", .int U), ("_whole_head", .ref D0)]) := upd_same
  have hw9 : Is K (r :: A) (upd H8 r (.ins c dx [("offset", .ref p), ("head", .ref a1), ("unit", .int U), ("_whole_head", .ref D0)])) (.ref D0) (.list ((ds.map lowD).map fun q => PyData.int (timesQ U q))) := by
    refine is_own_lst (vs := (ds.map lowD).map fun q => V.int (timesQ U q)) (by rw [upd_ne nDr]; exact eD) D0A ?_
    have z : Iss K (D0 :: r :: A) (upd H8 r (.ins c dx [("offset", .ref p), ("head", .ref a1), ("unit", .int U), ("_whole_head", .ref D0)])) (((ds.map lowD).map (timesQ U)).map V.int) (((ds.map lowD).map (timesQ U)).map PyData.int) := iss_ints _
    simp only [List.map_map, Function.comp_def] at z ⊢
    exact z
  have k9 : ∀ b ob, b ≠ r → H8 b = some ob → (upd H8 r (.ins c dx [("offset", .ref p), ("head", .ref a1), ("unit", .int U), ("_whole_head", .ref D0)])) b = some ob := fun b ob hb e => by rw [upd_ne hb]; exact e
  generalize (upd H8 r (.ins c dx [("offset", .ref p), ("head", .ref a1), ("unit", .int U), ("_whole_head", .ref D0)])) = H9 at g9 hA9 hp9 hv9 er9 hw9 k9 ⊢
  -- self.whole_offset = ..
  obtain ⟨wd, wm⟩ := wq _ (List.mem_cons_self)
  refine ⟨_, rfl, r, c, dx, _, _, rfl, er9, T.cl, T.nO, lkO _ _, ix_di hp9.full (by decide) rfl ?_⟩
  refine ⟨_, rfl, r, c, dx, _, _, rfl, er9, T.cl, T.nU, lkU _ _ _ _, _, rfl, r, c, dx, _, _, rfl, er9, T.cl, T.nO, lkO _ _, ix_di hp9.full (by decide) rfl ?_⟩
  refine ⟨_, _, rfl, rfl, wd, _, _, rfl, rfl, wm, ?_⟩
  refine ⟨_, rfl, r, c, dx, _, rfl, er9, T.cl, T.nX, (by show 4 < 1000; decide), ?_⟩
  rw [put5]
  dsimp only
  have ho : (lowD d).1 * (U / (lowD d).2) = timesQ U (lowD d) := rfl
  rw [ho]
  generalize hx : timesQ U (lowD d) = x
  have g11 : Go (r :: A) H9 (upd H9 r (.ins c dx [("offset", .ref p), ("head", .ref a1), ("unit", .int U), ("_whole_head", .ref D0), ("whole_offset", .int x)])) := Go.chg (by simp)
  have hA11 := g11.held hA9
  have hp11 := Is.mono g11 hp9
  have hv11 := Is.mono g11 hv9
  have hw11 := Is.mono g11 hw9
  have er11 : (upd H9 r (.ins c dx [("offset", .ref p), ("head", .ref a1), ("unit", .int U), ("_whole_head", .ref D0), ("whole_offset", .int x)])) r = some (.ins c dx [("offset", .ref p), ("head", .ref a1), ("unit", .int U), ("_whole_head", .ref D0), ("whole_offset", .int x)]) := upd_same
  have k11 : ∀ b ob, b ≠ r → H5 b = some ob → (upd H9 r (.ins c dx [("offset", .ref p), ("head", .ref a1), ("unit", .int U), ("_whole_head", .ref D0), ("whole_offset", .int x)])) b = some ob := fun b ob hb e => by
    rw [upd_ne hb]
    exact k9 b ob hb (s8 b ob (k7 b ob hb (s6 b ob e)))
  have k5' : ∀ b ob, b ≠ r → H4 b = some ob → (upd H9 r (.ins c dx [("offset", .ref p), ("head", .ref a1), ("unit", .int U), ("_whole_head", .ref D0), ("whole_offset", .int x)])) b = some ob := fun b ob hb e => k11 b ob hb (k5 b ob hb e)
  generalize (upd H9 r (.ins c dx [("offset", .ref p), ("head", .ref a1), ("unit", .int U), ("_whole_head", .ref D0), ("whole_offset", .int x)])) = H11 at g11 hA11 hp11 hv11 hw11 er11 k11 k5' ⊢
  -- self._start = tuple([..])
  refine ⟨8, rfl, by decide, by decide, fun E0 nE => ?_⟩
  have nEr : E0 ≠ r := fun z => by rw [z, er11] at nE; cases nE
  have nEA : E0 ∉ A := fun z => hA11 E0 (List.mem_cons_of_mem _ z) nE
  have oz : (lowD d).2.natAbs < 2 ^ 8000 := Nat.lt_trans vh.o2.2 (by decide +kernel)
  refine lc_range (lo := 0) (fun i H6 => Same H11 H6 ∧ Hd (E0 :: r :: A) H6 ∧ ∃ ws, H6 E0 = some (.lst ws) ∧ Iss K (E0 :: r :: A) H6 ws ((List.range i).map fun i => encQ (markQ (lowD d) (ds.map lowD) ((i : Nat) : Int))))
    ⟨same_new nE, Hd.cons upd_same (hd_new hA11 nE), [], upd_same, DAll.nil⟩ ?_ ?_
  · rintro i H6 hi ⟨s6, hA6, ws, eD, hws⟩
    have er6 := s6 _ _ er11
    have hi8 : i < 8 := by simpa using hi
    refine ⟨rfl, _, rfl, r, dx, _, rfl, er6, ?_, _, rfl, ?_⟩
    · rw [lk_cons, if_neg kOM, lk_cons, if_neg kHM, lk_cons, if_neg kUM, lk_cons, if_neg kWM, lk_cons, if_neg kXM]
      rfl
    refine ⟨r, dx, _, .ref p, .ref a1, E0 :: r :: A, lowD d, ds.map lowD, _, rfl, er6, lkO _ _, lkH _ _ _, hA6, Is.mono (Go.of s6) (Is.more nE hp11), Is.mono (Go.of s6) (Is.more nE hv11), by omega, ?_, oz, fun y H7 s7 hy => ?_⟩
    · exact Nat.lt_of_le_of_lt (show (0 + ((i : Nat) : Int)).natAbs ≤ 8 by omega) (by decide +kernel)
    · have wl : ws.length = i := by rw [hws.len]; simp
      refine ⟨ws, s7 _ _ eD, small1000 (by omega), fun b ob e => ?_, ?_, ws ++ [y], upd_same, ?_⟩
      · rw [upd_ne (ne_of_none e nE)]
        exact s7 _ _ (s6 _ _ e)
      · exact (Go.chg (A := E0 :: r :: A) (by simp)).held ((Go.of s7).held hA6)
      · have g8 : Go (E0 :: r :: A) H7 (upd H7 E0 (.lst (ws ++ [y]))) := Go.chg (by simp)
        rw [List.range_succ, List.map_append]
        refine iss_app (Iss.mono ((Go.of s7).trans g8) hws) (DAll.cons ?_ DAll.nil)
        have e0 : (0 + ((i : Nat) : Int)) = ((i : Nat) : Int) := by omega
        rw [e0] at hy
        exact Is.mono g8 hy
  · rintro H6 ⟨s6, hA6, ws, eD, hws⟩
    refine ⟨E0, ws, rfl, .inl ⟨.inl (.inl eD), fun l nl => ?_⟩⟩
    have er7 := (same_new nl (o := .tup ws)) _ _ (s6 _ _ er11)
    refine ⟨_, rfl, r, c, dx, _, rfl, er7, T.cl, T.nS, (by show 5 < 1000; decide), ?_⟩
    rw [put6]
    have lA : l ∉ E0 :: r :: A := hA6.out nl
    have g9 : Go (r :: A) H11 (upd (upd H6 l (.tup ws)) r (.ins c dx [("offset", .ref p), ("head", .ref a1), ("unit", .int U), ("_whole_head", .ref D0), ("whole_offset", .int x), ("_start", .ref l)])) := ((Go.of s6).trans (Go.new nl)).trans (Go.chg (by simp))
    have g10 : Go (E0 :: r :: A) H6 (upd (upd H6 l (.tup ws)) r (.ins c dx [("offset", .ref p), ("head", .ref a1), ("unit", .int U), ("_whole_head", .ref D0), ("whole_offset", .int x), ("_start", .ref l)])) := (Go.new nl).trans (Go.chg (by simp))
    refine k _ (fun b ob hb e => ?_) ⟨dx, .ref p, .ref a1, .ref l, .ref D0, ?_, Is.less (Is.mono g9 hp11), Is.less (Is.mono g9 hv11), ?_, ?_⟩
    · have a2 := s02 _ _ e
      rw [upd_ne hb]
      have a4 := s4 b ob (by rw [upd_ne hb]; exact a2)
      have a5 : H11 b = some ob := k5' b ob hb a4
      exact (same_new nl) _ _ (s6 _ _ a5)
    · rw [hUU, hx]
      exact upd_same
    · have z : Is K (E0 :: r :: A) (upd H6 l (.tup ws)) (.ref l) (.tuple ((List.range 8).map fun i => encQ (markQ (lowD d) (ds.map lowD) ((i : Nat) : Int)))) := is_new_tup hA6 nl hws
      exact Is.less (Is.less (Is.mono (Go.chg (by simp)) z))
    · rw [hUU]
      exact Is.less (Is.mono g9 hw11)
end

/-! ### the program: Rule(..) and Rule.read(text) -/
theorem atI_neg {α : Type} {xs : List α} {k : Nat} {v : α} (hk : 0 < k) (h : k ≤ xs.length) (e : xs[xs.length - k]? = some v) : atI xs (-(k : Int)) = some v := by
  unfold atI ixN
  rw [if_neg (by omega), if_pos (by omega), Option.bind_some, show (-(k : Int) + (xs.length : Int)).toNat = xs.length - k by omega]
  exact e
theorem cut_neg (xs : List V) {k : Nat} (hk : 0 < k) (h : k ≤ xs.length) : cutV xs none (some (-(k : Int))) = xs.take (xs.length - k) := by
  show (xs.drop 0).take ((if (-(k : Int)) < 0 then (-(k : Int) + (xs.length : Int)).toNat else min (-(k : Int)).toNat xs.length) - 0) = _
  rw [if_pos (by omega), show (-(k : Int) + (xs.length : Int)).toNat = xs.length - k by omega]
  rfl
/-- a rule's numbers as the document has them: lowest terms, not too long for texts -/
structure VR (o : Int × Int) (hd : List (Int × Int)) : Prop where
  ok : OkW o
  low : lowQ o.1 o.2 = o
  le1 : o.1 ≤ o.2
  len : hd.length ≤ 8
  oks : ∀ q ∈ hd, OkW q ∧ lowQ q.1 q.2 = q
  inc : ∀ (i : Nat) (p q : Int × Int), hd[i]? = some p → hd[i + 1]? = some q → ltQ p q
  last : ∀ m, hd.getLast? = some m → ltQ m (plainQ o hd.length)
theorem enc_low {q : Int × Int} (low : lowQ q.1 q.2 = q) : lowD (encQ q) = q := low
theorem map_low {hd : List (Int × Int)} (h : ∀ q ∈ hd, OkW q ∧ lowQ q.1 q.2 = q) : (hd.map encQ).map lowD = hd := by
  rw [List.map_map]
  conv => rhs; rw [← List.map_id hd]
  exact List.map_congr_left fun q hq => (h q hq).2
theorem enc_sz {q : Int × Int} (ok : OkW q) : ∀ a b, encQ q = encQ (a, b) → b.natAbs < 2 ^ 8000 := by
  intro a b z
  have z1 : PyData.tuple [.int q.1, .int q.2] = PyData.tuple [.int a, .int b] := z
  injection z1 with z1
  injection z1 with _ z1
  injection z1 with z1
  injection z1 with z1
  rw [← z1]
  exact Nat.lt_trans (show q.2.natAbs < 2 ^ 200 by have := ok.b; have := ok.b2; omega) (by decide +kernel)
theorem VR.vh {o : Int × Int} {hd : List (Int × Int)} (r : VR o hd) : VH o (hd.map encQ) where
  len := by rw [List.length_map]; exact r.len
  o2 := by have := r.ok.a; have := r.ok.b; have := r.ok.a2; have := r.ok.b2; constructor <;> omega
  num := by
    intro d hd'
    obtain ⟨q, hq, rfl⟩ := List.mem_map.mp hd'
    obtain ⟨ok, low⟩ := r.oks q hq
    refine ⟨enc_num ok.b, enc_sz ok, ?_, ?_⟩
    · rw [enc_low low]; have := ok.a; have := ok.a2; omega
    · rw [enc_low low]; have := ok.b; have := ok.b2; omega
  next := by
    intro i d e
    rw [List.getElem?_map] at e
    cases hq : hd[i]? with
    | none => rw [hq] at e; cases e
    | some q =>
      rw [hq] at e
      have e' : encQ q = d := Option.some.inj e
      subst e'
      have hm : q ∈ hd := List.mem_of_getElem? hq
      obtain ⟨ok, low⟩ := r.oks q hm
      have hil : i < hd.length := (List.getElem?_eq_some_iff.mp hq).1
      rw [← List.map_take, map_low (fun q hq => r.oks q (List.mem_of_mem_take hq))]
      unfold nextD
      rw [enc_num ok.b, enc_low low, Bool.true_and]
      cases i with
      | zero => exact decide_eq_true ok.a
      | succ i =>
        have hi : i < hd.length := by omega
        have e1 : (hd.take (i + 1)).getLast? = some hd[i] := by
          rw [List.getLast?_eq_getElem?, List.length_take, Nat.min_eq_left (by omega)]
          rw [List.getElem?_take_of_lt
                (by omega)]
          simp [hi]
        rw [e1]
        exact decide_eq_true (r.inc i _ _ (List.getElem?_eq_getElem hi) hq)
  last := by
    rw [map_low r.oks, List.length_map]
    exact r.last
theorem VR.off {o : Int × Int} {hd : List (Int × Int)} (r : VR o hd) : isOffD (encQ o) = true := by
  unfold isOffD
  rw [enc_num r.ok.b, enc_low r.low, decide_eq_true r.ok.a, decide_eq_true r.le1]
  rfl
def ruleParts (o : Int × Int) (hd : List (Int × Int)) : List (List Nat) := hd.map qL ++ [[124], qL o]
def ruleL (o : Int × Int) (hd : List (Int × Int)) : List Nat := TL.joinL [32] (ruleParts o hd)
theorem qL_free (q : Int × Int) {s : Nat} (h : s < 47 ∨ 57 < s) : s ∉ qL q := by
  unfold qL
  split
  · exact TL.numL_free (by omega)
  · intro z
    rcases List.mem_append.mp z with z | z
    · exact TL.numL_free (by omega) z
    · rcases List.mem_cons.mp
          z with z | z
      · omega
      · exact TL.numL_free (by omega) z
theorem rSplit (o : Int × Int) (hd : List (Int × Int)) : Txt.split (SX.S (ruleL o hd)) (SX.S [32]) = (ruleParts o hd).map SX.S := by
  refine split_join (by decide) (by unfold ruleParts; simp) ?_
  intro p hp
  unfold ruleParts at hp
  rcases List.mem_append.mp hp
        with hp | hp
  · obtain ⟨q, _, rfl⟩ := List.mem_map.mp hp
    exact qL_free q (.inl (by decide))
  · rcases List.mem_cons.mp hp
        with rfl | hp
    · decide
    · rw [List.mem_singleton] at hp
      subst hp
      exact qL_free o (.inl (by decide))
theorem joinL_len (S : List Nat) : ∀ ps : List (List Nat), (TL.joinL S ps).length ≤ (ps.map (·.length)).sum + ps.length * S.length
  | [] => by simp [TL.joinL]
  | [p] => by simp [TL.joinL]
  | p :: q :: r => by
    have ih := joinL_len S (q :: r)
    show (p ++ (S ++ TL.joinL S (q :: r))).length ≤ _
    rw [List.length_append, List.length_append, List.map_cons, List.sum_cons, List.length_cons (a := p), Nat.succ_mul]
    omega
theorem sum_le {ps : List (List Nat)} {k : Nat} (h : ∀ p ∈ ps, p.length ≤ k) : (ps.map (·.length)).sum ≤ ps.length * k := by
  induction ps with
  | nil => simp
  | cons p r ih =>
    rw [List.map_cons, List.sum_cons, List.length_cons,
          Nat.succ_mul]
    have h1 := h p (by simp)
    have h2 := ih fun q hq => h q (by simp [hq])
    omega
theorem ruleL_len {o : Int × Int} {hd : List (Int × Int)} (r : VR o hd) : (ruleL o hd).length ≤ 2000 := by
  have h1 := joinL_len [32] (ruleParts o hd)
  have h2 : ∀ p ∈ ruleParts o hd, p.length ≤ 101 := by
    intro p hp
    unfold ruleParts at hp
    rcases List.mem_append.mp hp
          with hp | hp
    · obtain ⟨q, hq, rfl⟩ := List.mem_map.mp hp
      exact qL_len (r.oks q hq).1
    · rcases List.mem_cons.mp hp
          with rfl | hp
      · decide
      · rw [List.mem_singleton] at hp
        subst hp
        exact qL_len r.ok
  have h3 := sum_le h2
  have h4 : (ruleParts o hd).length = hd.length + 2 := by unfold ruleParts; simp
  have h5 := r.len
  have h6 : ([32] : List Nat).length = 1 := rfl
  unfold ruleL
  rw [h4] at h1 h3
  rw [h6] at h1
  omega
section
variable {P : Program} {w : World} {K : PySem.W.Frag} {mg : Str → Option Value} {base : Heap} {c : Addr}
/-- Rule(offset, mark, ..), at good ones -/
def sp_Rule_new (K : PySem.W.Frag) (c : Addr) : Sp := fun vs H Q _ => ∃ (r dx : Addr) (v : V) (rest : List V) (A : List Addr) (d : PyData) (ds : List PyData), vs = .ref r :: v :: rest ∧ H r = some (.ins c dx []) ∧ r ∉ A ∧ Hd A H ∧ Is K (r :: A) H v d ∧
  Iss K (r :: A) H rest ds ∧ isOffD d = true ∧ (∀ a b, d = encQ (a, b) → b.natAbs < 2 ^ 8000) ∧ VH (lowD d) ds ∧
  ∀ H', (∀ b o, b ≠ r → H b = some o → H' b = some o) → RuleAt K c A H' r (lowD d) (ds.map lowD) → Q .non H'
theorem mak_Rule {f : Addr} {fd : FuncData} (B : Bl mg) (T : Tx K mg c) (F : Fun K "__init__" "Rule.__init__" s_Rule___init__ f fd) (M : Mk K c f)
    (C__is_offset : Cal P w K mg base 3 "_is_offset" (sp__is_offset K c) []) (C_lowest : Cal P w K mg base 2 "lowest" (sp_lowest K c) [])
    (C__lowest_head : Cal P w K mg base 4 "_lowest_head" (sp__lowest_head K c) []) (C_common_bottom : Cal P w K mg base 1 "common_bottom" (sp_common_bottom K c) []) (M_mark : Met P w K mg base 3 c "mark" (sp_Rule_mark K c)) :
    MakR P w K mg base 7 "Rule" c (sp_Rule_new K c) := by
  refine ⟨f, M, ?_, T.g_Rule⟩
  obtain ⟨oc, od, kV, doc, pm, an, cdv, ct, osl,
        rfl, lk, hcd⟩ := F.ex
  refine FnR.imp (fn_star (ps := ["self", "offset"]) (pv := "head") (N := ["self", "offset", "head", "top", "bottom", "number"]) (sp := sp_Rule_init K c) (k := 6) lk hcd sc_Rule___init__ cxUp_none (fun us rest hl => match us, rest, hl with | [a, b], [], _ => rfl | [a, b], r :: rs, _ => rfl) ?_) ?_
  · intro A outer s H vs Q E hr h
    obtain ⟨t, der, rd⟩ := rd_Rule_init B T C__is_offset C_lowest C__lowest_head C_common_bottom M_mark hr h
    exact ⟨t, der.nox, rd⟩
  · rintro vs H Q E ⟨r, dx, v, rest, A, d, ds, rfl, er, rA, hA, hv, hr, ho, hsz, vh, k⟩
    have rl : rest.length ≤ 8 := by rw [hr.len]; exact vh.len
    refine ⟨[.ref r, v], rest, rfl, rfl, Nat.le_of_lt (small1000 (by omega)), fun p np => ?_⟩
    have hA0 : Hd (r :: A) H := Hd.cons er hA
    refine ⟨r, dx, v, p, A, d, ds, rfl, same_new np _ _ er, rA, hd_new hA np, Is.mono (Go.new np) hv, is_new_tup hA0 np hr, ho, hsz, vh, fun H' keep R => k H' (fun b o hb e => keep b o hb (same_new np _ _ e)) R⟩
def sp_Rule_read (K : PySem.W.Frag) (c : Addr) : Sp := fun vs H Q _ => ∃ (o : Int × Int) (hd : List (Int × Int)) (A : List Addr), vs = [.str (SX.S (ruleL o hd))] ∧ VR o hd ∧ Hd A H ∧
  ∀ r H', Same H H' → r ∉ A → RuleAt K c A H' r o hd → Q (.ref r) H'
theorem sta_read {mc : Value} {p f : Addr} {fd : FuncData} (B : Bl mg) (T : Tx K mg c) (F : Fun K "read" "Rule.read" s_Rule_read f fd) (sm : SMet K c mc "read" p f)
    (C_read_number : Cal P w K mg base 3 "read_number" (sp_read_number K c) []) (M_Rule : MakR P w K mg base 7 "Rule" c (sp_Rule_new K c)) :
    Sta P w K mg base 9 "Rule" "read" (sp_Rule_read K c) := by
  refine ⟨c, mc, p, f, fd, ["text"], T.g_Rule, sm, F.ok sc_Rule_read (fun vs H Q E h => ?_) (fun cdv A outer s H vs Q E hr h => ?_), F.binds (fun _ _ _ _ _ _ us hl => match us, hl with | [_], _ => rfl)⟩
  · obtain ⟨_, _, _, rfl, _⟩ := h
    rfl
  obtain ⟨o, hd, A0, rfl, vr, hA, k⟩ := h
  refine ⟨_, (pss_cons (ps_if (pt_not (pt_val (pe_callB call_isi (by rfl) B.isinstance (by decide +kernel) (pa_cons (pv 0) (pa_cons (pe_bltn (v := .ty "str") (by rfl) B.str (by decide +kernel) rfl) pa_nil))))) (pss_one ps_never) pss_nil)
      (pss_cons (ps_set (i := 1) sc_Rule_read.nd rfl (Or.inl rfl) (pe_split (pv 0) pe_str))
      (pss_cons (ps_if (PW.pt (pw_or (pt_cmpR op_lt (pe_callB call_len_seq (by rfl) B.len (by decide +kernel) (pa_cons (pv 1) pa_nil)) pe_int (nomark _)) (pw_or1 (pt_cmpR op_ne (pe_ix ix_seq (pv 1) (pe_un un_neg pe_int) (fun _ _ => rfl)) pe_str (nomark _))))) (pss_one ps_never) pss_nil)
      (pss_cons (ps_set (i := 2) sc_Rule_read.nd rfl (Or.inl rfl) (pe_c C_read_number hr (by decide) (by rfl) (pa_cons (pe_ix ix_seq (pv 1) (pe_un un_neg pe_int) (fun _ _ => rfl)) pa_nil)))
      (pss_cons (ps_setLc (i := 3) (own := [("word", 4)]) (by rfl) sc_Rule_read.nd rfl rfl (sw_true rfl rfl rfl (by decide +kernel)) (pi_list (pe_slice sl_list (pv 1) po_none (po_some (pe_un un_neg pe_int)))) (blkOk_by (own := [("word", 4)]) (N := ["text", "words", "offset", "head", "word"]) (sc := defScope s_Rule_read) (by decide +kernel)) (fun _ _ _ _ _ => (pg_name (i := 4) sc_Rule_read.nd rfl (Or.inl rfl))) (fun _ _ _ _ _ => pts_nil) (fun _ _ _ _ _ => (pe_c C_read_number hr (by decide) (by rfl) (pa_cons (pv 4) pa_nil))))
      (pss_one (ps_try_thru0 (pss_one (ps_ret (pe_mkS M_Rule hr (by decide) (by rfl) (pv 2) (pv 3))))))))))), ?_⟩
  have rl := ruleL_len vr
  have sl : sizeLine = 16777216 := sizeLine_eq
  have c32 : (" " : Str) = SX.S [32] := by decide +kernel
  have c124 : ("|" : Str) = SX.S [124] := by decide +kernel
  refine ⟨_, rfl, _, _, _, _, _, rfl, .ty _, (D.str (K := K) (H := H) (SX.S (ruleL o hd))).ty, kit_ty (kit_str _), _, rfl, ?_⟩
  refine ⟨_, rfl, ⟨_, rfl⟩, _, _, rfl, rfl, by decide +kernel, by rw [SX.S_len]; omega, fun l nl => ?_⟩
  have es : Txt.split (SX.S (ruleL o hd)) (" " : Str) = (ruleParts o hd).map SX.S := by rw [c32]; exact rSplit o hd
  rw [es]
  have s1 : Same H (upd H l (.lst (((ruleParts o hd).map SX.S).map V.str))) := same_new nl
  have hS : SqL K (upd H l (.lst (((ruleParts o hd).map SX.S).map V.str))) l (((ruleParts o hd).map SX.S).map V.str) := .inl (.inl upd_same)
  generalize (upd H l (.lst (((ruleParts o hd).map SX.S).map V.str))) = H1 at s1 hS ⊢
  have wl : (((ruleParts o hd).map SX.S).map V.str).length = hd.length + 2 := by unfold ruleParts; simp
  have e2 : (((ruleParts o hd).map SX.S).map V.str)[(((ruleParts o hd).map SX.S).map V.str).length - 2]? = some (V.str (SX.S [124])) := by
    rw [wl]
    unfold ruleParts
    simp
  have e1 : (((ruleParts o hd).map SX.S).map V.str)[(((ruleParts o hd).map SX.S).map V.str).length - 1]? = some (V.str (SX.S (qL o))) := by
    rw [wl]
    unfold ruleParts
    simp
  have et : (((ruleParts o hd).map SX.S).map V.str).take ((((ruleParts o hd).map SX.S).map V.str).length - 2) = (hd.map fun q => V.str (SX.S (qL q))) := by
    rw [wl]
    unfold ruleParts
    simp
  generalize hW : (((ruleParts o hd).map SX.S).map V.str) = W at hS wl e2 e1 et
  -- if len(words) < 2 or words[-2] != "|"
  refine ⟨_, rfl, l, W, rfl, .inl hS, _, _, rfl, rfl, _, rfl, ite2 (fun e => ?_) (fun _ => ?_)⟩
  · have e0 : ((W.length : Nat) : Int) < 2 := of_decide_eq_true e
    omega
  refine ⟨_, rfl, _, rfl, .inl ⟨l, W, -2, _, rfl, rfl, hS, atI_neg (k := 2) (by decide) (by omega) e2, ?_⟩⟩
  rw [c124]
  refine ⟨rfl, _, rfl, iteNS rfl ?_⟩
  -- offset = read_number(words[-1])
  refine ⟨_, rfl, _, rfl, .inl ⟨l, W, -1, _, rfl, rfl, hS, atI_neg (k := 1) (by decide) (by omega) e1, ?_⟩⟩
  refine ⟨o, rfl, vr.ok, vr.low, fun po H2 s2 npo epo => ?_⟩
  have s02 := s1.trans s2
  have hA2 : Hd A0 H2 := (Go.of s02).held hA
  have poA : po ∉ A0 := ((Go.of s1).held hA).out npo
  have ho2 : Is K A0 H2 (.ref po) (encQ o) := Is_Q poA epo
  -- head = [..]
  refine ⟨_, rfl, _, rfl, _, rfl, l, W, rfl, s2.seq hS, fun l2 nl2 => ?_⟩
  have ec : cutV W none (some (-2)) = hd.map fun q => V.str (SX.S (qL q)) := by
    rw [← et]
    exact cut_neg W (k := 2) (by decide) (by omega)
  rw [ec]
  have s3 : Same H2 (upd H2 l2 (.lst (hd.map fun q => V.str (SX.S (qL q))))) := same_new nl2
  have hS3 : SqL K (upd H2 l2 (.lst (hd.map fun q => V.str (SX.S (qL q))))) l2 (hd.map fun q => V.str (SX.S (qL q))) := .inl (.inl upd_same)
  generalize (upd H2 l2 (.lst (hd.map fun q => V.str (SX.S (qL q))))) = H3 at s3 hS3 ⊢
  have hA3 : Hd A0 H3 := (Go.of s3).held hA2
  refine ⟨l2, rfl, ⟨_, hS3⟩, fun D0 nD => ?_⟩
  refine lc_list (K := K) (a := l2) (xs := hd.map fun q => V.str (SX.S (qL q))) (fun i H4 => Same H3 H4 ∧ Hd (D0 :: A0) H4 ∧ ∃ ws, H4 D0 = some (.lst ws) ∧ Iss K (D0 :: A0) H4 ws ((hd.take i).map encQ))
    ⟨same_new nD, Hd.cons upd_same (hd_new hA3 nD), [], upd_same, DAll.nil⟩ (fun i H4 _ ⟨s4, _⟩ => s4.seq hS3) ?_ ?_
  · rintro i y H4 hi ⟨s4, hA4, ws, eD, hws⟩
    obtain ⟨q, hq, rfl⟩ := some_map hi
    have hm : q ∈ hd := List.mem_of_getElem? hq
    obtain ⟨okq, lowq⟩ := vr.oks q hm
    refine ⟨rfl, _, rfl, q, rfl, okq, lowq, fun p H5 s5 np ep => ?_⟩
    have npD : p ≠ D0 := fun z => by rw [z, eD] at np; cases np
    have pA : p ∉ D0 :: A0 := hA4.out np
    refine ⟨ws, s5 _ _ eD, ?_, fun b ob e => ?_, ?_, ws ++ [.ref p], upd_same, ?_⟩
    · have e1 := hws.len
      rw [List.length_map, List.length_take] at e1
      have := vr.len
      exact small1000 (by omega)
    · rw [upd_ne (ne_of_none e nD)]
      exact s5 _ _ (s4 _ _ e)
    · exact (Go.chg (A := D0 :: A0) (by simp)).held ((Go.of s5).held hA4)
    · have g6 : Go (D0 :: A0) H5 (upd H5 D0 (.lst (ws ++ [.ref p]))) := Go.chg (by simp)
      rw [List.take_add_one, hq]
      simp only [List.map_append, Option.toList, List.map_cons, List.map_nil]
      exact iss_app (Iss.mono ((Go.of s5).trans g6) hws) (DAll.cons (Is.mono g6 (Is_Q pA ep)) DAll.nil)
  · rintro H4 ⟨s4, hA4, ws, eD, hws⟩
    rw [List.length_map, List.take_length] at hws
    have hA4' : Hd A0 H4 := fun b hb => hA4 b (List.mem_cons_of_mem _ hb)
    have ho4 : Is K A0 H4 (.ref po) (encQ o) := Is.mono (Go.of (s3.trans s4)) ho2
    -- return Rule(offset, *head)
    refine ⟨_, rfl, _, rfl, D0, ws, rfl, .inr (.inl (.inl eD)), ?_⟩
    intro r dx nr ndx ne
    have rA : r ∉ A0 := hA4'.out nr
    have nDr : D0 ≠ r := ne_of_none eD nr
    have g5 : Go (r :: A0) H4 (upd (upd H4 dx (.own r)) r (.ins c dx [])) := (Go.new ndx).trans (Go.chg (by simp))
    have sH : ∀ b o, b ≠ r → H4 b = some o → (upd (upd H4 dx (.own r)) r (.ins c dx [])) b = some o := fun b ob hb e => by
      rw [upd_ne hb, upd_ne (ne_of_none e ndx)]
      exact e
    have hA5 : Hd A0 (upd (upd H4 dx (.own r)) r (.ins c dx [])) := fun b hb z => by
      have nb : b ≠ r := fun y => rA (by rw [← y]; exact hb)
      cases q : H4 b with
      | none => exact hA4' b hb q
      | some u => rw [sH b u nb q] at z; cases z
    refine ⟨r, dx, .ref po, ws, A0, encQ o, hd.map encQ, by rw [List.append_nil], upd_same, rA, hA5, Is.mono g5 (Is.more nr ho4), ?_, vr.off, enc_sz vr.ok, ?_, fun H6 keep R => ⟨rfl, ?_⟩⟩
    · have z : Iss K A0 H4 ws (hd.map encQ) := Iss.less hws
      exact ⟨z.len, fun i v d h1 h2 => Is.mono g5 (Is.more nr (z.all i v d h1 h2))⟩
    · rw [enc_low vr.low]
      exact vr.vh
    · rw [enc_low vr.low, map_low vr.oks] at R
      refine k r H6 (fun b ob e => ?_) rA R
      have e4 := s4 _ _ (s3 _ _ (s02 _ _ e))
      have nb : b ≠ r := ne_of_none e4 nr
      exact keep b ob nb (sH b ob nb e4)
end

end LW

set_option Elab.async false
set_option linter.all false
set_option maxRecDepth 100000
set_option maxHeartbeats 4000100
set_option exponentiation.threshold 9000
namespace LW
open L2 PySem.Spec PyProof.Rows PySem
theorem low_mul {t b : Int} (h : 0 < b) : ∃ g : Int, 0 < g ∧ (lowQ t b).1 * g = t ∧ (lowQ t b).2 * g = b := by
  refine ⟨((Nat.gcd t.natAbs b.natAbs : Nat) : Int), ?_, ?_, ?_⟩
  · have := gcd_pos (t := t) h; omega
  · exact Int.ediv_mul_cancel (Int.ofNat_dvd_left.mpr (Nat.gcd_dvd_left _ _))
  · exact Int.ediv_mul_cancel (Int.ofNat_dvd_left.mpr (Nat.gcd_dvd_right _ _))
theorem low_pos {t b : Int} (h : 0 < b) : 0 < (lowQ t b).2 := by
  obtain ⟨g, hg, _, e2⟩ := low_mul (t := t) h
  rcases Int.lt_trichotomy (lowQ t b).2 0 with z | z | z
  · have := Int.mul_neg_of_neg_of_pos z hg; omega
  · rw [z] at e2; omega
  · exact z
theorem low_nn {t b : Int} (ht : 0 ≤ t) : 0 ≤ (lowQ t b).1 := Int.ediv_nonneg ht (by omega)
theorem low_le1 {t b : Int} (ht : 0 ≤ t) : (lowQ t b).1 ≤ t := Int.ediv_le_self _ ht
theorem low_le2 {t b : Int} (hb : 0 ≤ b) : (lowQ t b).2 ≤ b := Int.ediv_le_self _ hb
theorem low_low {t b : Int} (ht : 0 ≤ t) (h : 0 < b) : lowQ (lowQ t b).1 (lowQ t b).2 = lowQ t b := by
  have hg := gcd_pos (t := t) h
  have e1 : (lowQ t b).1.natAbs = t.natAbs / Nat.gcd t.natAbs b.natAbs := by
    show (t / ((Nat.gcd t.natAbs b.natAbs : Nat) : Int)).natAbs = _
    obtain ⟨n, rfl⟩ := Int.eq_ofNat_of_zero_le ht
    rw [Int.natAbs_natCast, ← Int.natCast_ediv, Int.natAbs_natCast]
  have e2 : (lowQ t b).2.natAbs = b.natAbs / Nat.gcd t.natAbs b.natAbs := by
    show (b / ((Nat.gcd t.natAbs b.natAbs : Nat) : Int)).natAbs = _
    obtain ⟨n, rfl⟩ := Int.eq_ofNat_of_zero_le (Int.le_of_lt h)
    rw [Int.natAbs_natCast, ← Int.natCast_ediv, Int.natAbs_natCast]
  have co : Nat.gcd (lowQ t b).1.natAbs (lowQ t b).2.natAbs = 1 := by
    rw [e1, e2]
    exact Nat.gcd_div_gcd_div_gcd_of_pos_right (by omega)
  show ((lowQ t b).1 / ((Nat.gcd (lowQ t b).1.natAbs (lowQ t b).2.natAbs : Nat) : Int), (lowQ t b).2 / ((Nat.gcd (lowQ t b).1.natAbs (lowQ t b).2.natAbs : Nat) : Int)) = _
  rw [co]
  show ((lowQ t b).1 / 1, (lowQ t b).2 / 1) = _
  rw [Int.ediv_one, Int.ediv_one]
theorem low_lt {s t b : Int} (hb : 0 < b) (h : s < t) : ltQ (lowQ s b) (lowQ t b) := by
  obtain ⟨g, hg, a1, a2⟩ := low_mul (t := s) hb
  obtain ⟨f, hf, b1, b2⟩ := low_mul (t := t) hb
  show (lowQ s b).1 * (lowQ t b).2 < (lowQ t b).1 * (lowQ s b).2
  refine Int.lt_of_mul_lt_mul_right (a := g * f) ?_ (Int.le_of_lt (Int.mul_pos hg hf))
  have e1 : (lowQ s b).1 * (lowQ t b).2 * (g * f) = s * b := by
    calc (lowQ s b).1 * (lowQ t b).2 * (g * f) = ((lowQ s b).1 * g) * ((lowQ t b).2 * f) := by
          rw [Int.mul_assoc, Int.mul_assoc, Int.mul_left_comm (lowQ t b).2 g f]
      _ = s * b := by rw [a1, b2]
  have e2 : (lowQ t b).1 * (lowQ s b).2 * (g * f) = t * b := by
    calc (lowQ t b).1 * (lowQ s b).2 * (g * f) = ((lowQ t b).1 * f) * ((lowQ s b).2 * g) := by
          rw [Int.mul_assoc, Int.mul_assoc, Int.mul_comm g f, Int.mul_left_comm (lowQ s b).2 f g]
      _ = t * b := by rw [b1, a2]
  rw [e1, e2]
  exact Int.mul_lt_mul_of_pos_right h hb
/-- the bound for the last mark is the same for the offset in lowest terms -/
theorem plain_low {m o : Int × Int} {n : Int} (ho : 0 < o.2) (h : ltQ m (plainQ o n)) : ltQ m (plainQ (lowQ o.1 o.2) n) := by
  obtain ⟨g, hg, a1, a2⟩ := low_mul (t := o.1) ho
  have h' : m.1 * o.2 < (o.1 + n * o.2) * m.2 := h
  show m.1 * (lowQ o.1 o.2).2 < ((lowQ o.1 o.2).1 + n * (lowQ o.1 o.2).2) * m.2
  refine Int.lt_of_mul_lt_mul_right (a := g) ?_ (Int.le_of_lt hg)
  have e1 : m.1 * (lowQ o.1 o.2).2 * g = m.1 * o.2 := by rw [Int.mul_assoc, a2]
  have e2 : ((lowQ o.1 o.2).1 + n * (lowQ o.1 o.2).2) * m.2 * g = (o.1 + n * o.2) * m.2 := by
    have : ((lowQ o.1 o.2).1 + n * (lowQ o.1 o.2).2) * g = o.1 + n * o.2 := by rw [Int.add_mul, Int.mul_assoc, a1, a2]
    rw [Int.mul_assoc, Int.mul_comm m.2 g, ← Int.mul_assoc, this]
  rw [e1, e2]
  exact h'
theorem low_le {o : Int × Int} (ho : 0 < o.2) (h : o.1 ≤ o.2) : (lowQ o.1 o.2).1 ≤ (lowQ o.1 o.2).2 := by
  obtain ⟨g, hg, a1, a2⟩ := low_mul (t := o.1) ho
  exact Int.le_of_mul_le_mul_right (by rw [a1, a2]; exact h) hg
end LW

set_option Elab.async false
set_option linter.all false
set_option exponentiation.threshold 9000
set_option maxHeartbeats 4000100
open L2 PySem.Spec PyProof.Rows PySem
namespace LW
theorem cat_len (x y : Str) : (x ++ y).length = x.length + y.length := by
  show (x.cps ++ y.cps).size = x.cps.size
        + y.cps.size
  simp
theorem plain_low' {o : Int × Int} {n : Int} (a : 0 ≤ o.1) (b : 0 < o.2) (n0 : 0 ≤ n) (low : lowQ o.1 o.2 = o) : lowQ (plainQ o n).1 (plainQ o n).2 = plainQ o n := by
  have e1 : (Nat.gcd o.1.natAbs o.2.natAbs : Nat) = 1 := by
    have h2 : o.2 / ((Nat.gcd o.1.natAbs o.2.natAbs : Nat) : Int) = o.2 := congrArg Prod.snd low
    have gp : 0 < Nat.gcd o.1.natAbs o.2.natAbs := Nat.gcd_pos_of_pos_right _ (by omega)
    generalize Nat.gcd o.1.natAbs o.2.natAbs = g at h2 gp
    rcases Nat.lt_or_ge 1 g with hg | hg
    · have := Int.ediv_lt_self_of_pos_of_ne_one b (show ((g : Nat) : Int) ≠ 1 by omega)
      omega
    · omega
  have e2 : Nat.gcd (plainQ o n).1.natAbs (plainQ o n).2.natAbs = 1 := by
    show Nat.gcd (o.1 + n * o.2).natAbs o.2.natAbs = 1
    have e3 : (o.1 + n * o.2).natAbs = o.1.natAbs + n.natAbs * o.2.natAbs := by
      rw [← Int.natAbs_mul]
      have : 0 ≤ n * o.2 := Int.mul_nonneg n0 (Int.le_of_lt b)
      omega
    rw [e3, Nat.gcd_add_mul_right_left]
    exact e1
  show ((plainQ o n).1 / ((Nat.gcd (plainQ o n).1.natAbs (plainQ o n).2.natAbs : Nat) : Int), (plainQ o n).2 / ((Nat.gcd (plainQ o n).1.natAbs (plainQ o n).2.natAbs : Nat) : Int)) = _
  rw [e2]
  show ((plainQ o n).1 / 1, (plainQ o n).2 / 1) = _
  rw [Int.ediv_one, Int.ediv_one]
theorem int_len {i : Int} (h0 : 0 ≤ i) (h : i < 10 ^ 100) : (PyData.shown (.int i)).length ≤ 100 := by
  show (Str.ofString (toString i)).length ≤ 100
  rw [toS h0, SX.S_len]
  exact TL.numL_len (by decide) (by omega)
theorem pairL_len {q : Int × Int} (a : 0 ≤ q.1) (a2 : q.1 < 10 ^ 100) (b : 0 ≤ q.2) (b2 : q.2 < 10 ^ 100) : (PyData.shown (encQ q)).length ≤ 300 := by
  have h1 := int_len a a2
  have h2 := int_len b b2
  have e : PyData.shown (encQ q) = ("(" : Str) ++ Str.join ", " [PyData.shown (.int q.1), PyData.shown (.int q.2)] ++ (")" : Str) := by
    unfold encQ
    simp only [PyData.shown, PyData.shownAll, tupleText]
    rfl
  have e2 : (Str.join ", " [PyData.shown (.int q.1), PyData.shown (.int q.2)]).length + 2 = piled [PyData.shown (.int q.1), PyData.shown (.int q.2)] := join_length_add _ (by simp)
  rw [e, cat_len, cat_len]
  have k1 : ("(" : Str).length = 1 := by decide +kernel
  have k2 : (")" : Str).length = 1 := by decide +kernel
  simp only [piled, List.map_cons, List.map_nil, List.sum_cons, List.sum_nil] at e2
  omega
theorem twoL_len {x y : PyData} (hx : x.shown.length ≤ 300) (hy : y.shown.length ≤ 300) : (PyData.shown (.list [x, y])).length ≤ sizeLine := by
  have e : PyData.shown (.list [x, y]) = (("[" : Str) ++ ("" : Str) ++ x.shown) ++ (", " : Str) ++ y.shown ++ ("]" : Str) := by
    simp only [PyData.shown, PyData.shownAll]
    rfl
  have k1 : ("[" : Str).length = 1 := by decide +kernel
  have k2 : ("]" : Str).length = 1 := by decide +kernel
  have k3 : (", " : Str).length = 2 := by decide +kernel
  have k4 : ("" : Str).length = 0 := by decide +kernel
  rw [e, cat_len, cat_len, cat_len, cat_len, cat_len, sizeLine_eq]
  omega
/-- a mark that is told -/
structure OkM (q : Int × Int) : Prop where
  a : 0 ≤ q.1
  a2 : q.1 < 10 ^ 100
  b : 0 < q.2
  b2 : q.2 < 10 ^ 100
  low : lowQ q.1 q.2 = q
theorem VR.mark {o : Int × Int} {hd : List (Int × Int)} {n : Int} (r : VR o hd) (n0 : 0 ≤ n) (n1 : n < 10 ^ 40) : OkM (markQ o hd n) := by
  have oa := r.ok.a
  have ob := r.ok.b
  have oa2 := r.ok.a2
  have ob2 := r.ok.b2
  by_cases h : n < ((hd.length : Nat) : Int)
  · have hi : n.toNat < hd.length := by omega
    have z : markQ o hd n = hd[n.toNat] := by
      unfold markQ
      rw [if_pos h]
      simp [List.getD, hi]
    rw [z]
    obtain ⟨ok, low⟩ := r.oks _ (List.getElem_mem hi)
    exact ⟨ok.a, Int.lt_trans ok.a2 (by decide), ok.b, Int.lt_trans ok.b2 (by decide), low⟩
  · have z : markQ o hd n = plainQ o n := by
      unfold markQ
      rw [if_neg h]
    rw [z]
    have h1 : n * o.2 ≤ 10 ^ 40 * 10 ^ 50 := Int.mul_le_mul (Int.le_of_lt n1) (Int.le_of_lt ob2) (Int.le_of_lt ob) (by decide)
    have h0 : 0 ≤ n * o.2 := Int.mul_nonneg n0 (Int.le_of_lt ob)
    refine ⟨?_, ?_, ob, Int.lt_trans ob2 (by decide), plain_low' oa ob n0 r.low⟩
    · show 0 ≤ o.1 + n * o.2
      omega
    · show o.1 + n * o.2 < 10 ^ 100
      have : (10 : Int) ^ 50 + 10 ^ 40 * 10 ^ 50 < 10 ^ 100 := by decide
      omega
theorem markQ_in {o : Int × Int} {hd : List (Int × Int)} {n : Int} (n0 : 0 ≤ n) (h : n < ((hd.length : Nat) : Int)) : hd[n.toNat]? = some (markQ o hd n) := by
  have hi : n.toNat < hd.length := by omega
  have z : markQ o hd n = hd[n.toNat] := by
    unfold markQ
    rw [if_pos h]
    generalize n.toNat = j at hi
    simp [List.getD, hi]
  rw [z]
  exact List.getElem?_eq_getElem hi
theorem markQ_out {o : Int × Int} {hd : List (Int × Int)} {n : Int} (h : ¬ n < ((hd.length : Nat) : Int)) : markQ o hd n = plainQ o n := by
  unfold markQ
  rw [if_neg h]
theorem VR.grows {o : Int × Int} {hd : List (Int × Int)} {n : Int} (r : VR o hd) (n0 : 0 < n) : ltQ (markQ o hd (n - 1)) (markQ o hd n) := by
  have ob := r.ok.b
  by_cases h : n < ((hd.length : Nat) : Int)
  · have z := markQ_in (o := o) (Int.le_of_lt n0) h
    have y := markQ_in (o := o) (hd := hd) (n := n - 1) (by omega) (by omega)
    refine r.inc (n - 1).toNat _ _ y ?_
    rw [show (n - 1).toNat + 1 = n.toNat by omega]
    exact z
  · rw [markQ_out h]
    by_cases g : n - 1 < ((hd.length : Nat) : Int)
    · have y := markQ_in (o := o) (hd := hd) (n := n - 1) (by omega) g
      have e : hd.getLast? = some (markQ o hd (n - 1)) := by
        rw [List.getLast?_eq_getElem?, show hd.length - 1 = (n - 1).toNat by omega]
        exact y
      have l := r.last _ e
      rw [show ((hd.length : Nat) : Int) = n by omega] at l
      exact l
    · rw [markQ_out g]
      show (o.1 + (n - 1) * o.2) * o.2 < (o.1 + n * o.2) * o.2
      refine Int.mul_lt_mul_of_pos_right ?_ ob
      have : (n - 1) * o.2 = n * o.2 - o.2 := by rw [Int.sub_mul, Int.one_mul]
      omega
end LW

set_option Elab.async false
set_option linter.all false
set_option maxRecDepth 100000
set_option maxHeartbeats 4000100
set_option exponentiation.threshold 9000
namespace LW
open PySem PySem.Spec PyProof.Rows L2 StX
abbrev s__law_tank : Stmt := topS 48
theorem sc__law_tank : FnScope ["_law_script", "_law_k", "_law_mixed", "_law_entry", "_law_own"] ["_law_script", "_law_k"] (defScope s__law_tank) := ⟨rfl, rfl, rfl, by decide +kernel, rfl, by decide +kernel, by decide +kernel⟩
abbrev s__law_tap : Stmt := topS 49
theorem sc__law_tap : FnScope ["_law_tank_here", "_law_many", "_law_part"] ["_law_tank_here", "_law_many"] (defScope s__law_tap) := ⟨rfl, rfl, rfl, by decide +kernel, rfl, by decide +kernel, by decide +kernel⟩
abbrev s__law_any : Stmt := topS 50
theorem sc__law_any : FnScope ["_law_tank_here", "_law_things"] ["_law_tank_here", "_law_things"] (defScope s__law_any) := ⟨rfl, rfl, rfl, by decide +kernel, rfl, by decide +kernel, by decide +kernel⟩
abbrev s__law_low : Stmt := topS 51
theorem sc__law_low : FnScope ["_law_top", "_law_bottom", "_law_one", "_law_two"] ["_law_top", "_law_bottom"] (defScope s__law_low) := ⟨rfl, rfl, rfl, by decide +kernel, rfl, by decide +kernel, by decide +kernel⟩
abbrev s__law_exact : Stmt := topS 52
theorem sc__law_exact : FnScope ["_law_thing"] ["_law_thing"] (defScope s__law_exact) := ⟨rfl, rfl, rfl, by decide +kernel, rfl, by decide +kernel, by decide +kernel⟩
abbrev s__law_under : Stmt := topS 53
theorem sc__law_under : FnScope ["_law_one", "_law_two"] ["_law_one", "_law_two"] (defScope s__law_under) := ⟨rfl, rfl, rfl, by decide +kernel, rfl, by decide +kernel, by decide +kernel⟩
abbrev s__law_written : Stmt := topS 54
theorem sc__law_written : FnScope ["_law_one"] ["_law_one"] (defScope s__law_written) := ⟨rfl, rfl, rfl, by decide +kernel, rfl, by decide +kernel, by decide +kernel⟩
abbrev s__law_head : Stmt := topS 55
theorem sc__law_head : FnScope ["_law_tank_here", "_law_top", "_law_size", "_law_bottom", "_law_drawn", "_law_k", "_law_numbers", "_law_drawn_one"] ["_law_tank_here", "_law_top"] (defScope s__law_head) := ⟨rfl, rfl, rfl, by decide +kernel, rfl, by decide +kernel, by decide +kernel⟩
abbrev s__law_spec : Stmt := topS 56
theorem sc__law_spec : FnScope ["_law_tank_here", "_law_top"] ["_law_tank_here"] (defScope s__law_spec) := ⟨rfl, rfl, rfl, by decide +kernel, rfl, by decide +kernel, by decide +kernel⟩
abbrev s__law_mark : Stmt := topS 57
theorem sc__law_mark : FnScope ["_law_spec_here", "_law_k"] ["_law_spec_here", "_law_k"] (defScope s__law_mark) := ⟨rfl, rfl, rfl, by decide +kernel, rfl, by decide +kernel, by decide +kernel⟩
abbrev s__law_text : Stmt := topS 58
theorem sc__law_text : FnScope ["_law_spec_here", "_law_mark_here"] ["_law_spec_here"] (defScope s__law_text) := ⟨rfl, rfl, rfl, by decide +kernel, rfl, by decide +kernel, by decide +kernel⟩
abbrev s__law_rule : Stmt := topS 59
theorem sc__law_rule : FnScope ["_law_spec_here"] ["_law_spec_here"] (defScope s__law_rule) := ⟨rfl, rfl, rfl, by decide +kernel, rfl, by decide +kernel, by decide +kernel⟩
local macro_rules | `(tactic| walk_at "len") => `(tactic| skip)
/-! ### the draws -/
section
variable {P : Program} {w : World} {K : PySem.W.Frag} {mg : Str → Option Value} {base : Heap} {c : Addr}
/-- _law_tank(script, k) -/
def sp__law_tank (K : PySem.W.Frag) (c : Addr) : Sp := fun vs H Q _ => ∃ (a : Addr) (ns : List Int) (k : Int), vs = [.ref a, .int k] ∧ SqL K H a (ns.map V.int) ∧ ns.length ≤ 1000 ∧ 0 ≤ k ∧ k < 1000 ∧
  ∀ p H', Same H H' → H p = none → TankAt H' p → Q (.ref p) H'
theorem cal__law_tank (B : Bl mg) (DD : OwnDef K mg "_law_tank" s__law_tank)   : Cal P w K mg base 1 "_law_tank" (sp__law_tank K c) [] := by
  obtain ⟨f, fd, F, hm⟩ := DD.ex
  refine ⟨f, fd, ["_law_script", "_law_k"], [], F.ok sc__law_tank (fun vs H Q E h => ?len) (fun cdv A outer s H vs Q E hr h => ?run), hm, F.kp, F.binds (fun _ _ _ _ _ _ us hl => match us, hl with | [_, _], _ => rfl), .nil⟩
  case len => first | (obtain ⟨_, rfl, _⟩ := h; rfl) | (obtain ⟨_, _, rfl, _⟩ := h; rfl) | (obtain ⟨_, _, _, rfl, _⟩ := h; rfl) | (obtain ⟨_, _, _, _, rfl, _⟩ := h; rfl) | (obtain ⟨_, _, _, _, _, rfl, _⟩ := h; rfl) | (obtain ⟨_, _, _, _, _, _, rfl, _⟩ := h; rfl) | (obtain ⟨_, _, _, _, _, _, _, rfl, _⟩ := h; rfl) | (obtain ⟨_, _, _, _, _, _, _, _, rfl, _⟩ := h; rfl) | (obtain ⟨_, _, _, _, _, _, _, _, _, rfl, _⟩ := h; rfl) | (obtain ⟨_, _, _, _, _, _, _, _, _, _, rfl, _⟩ := h; rfl) | (obtain ⟨_, _, _, _, _, _, _, _, _, _, _, rfl, _⟩ := h; rfl) | (obtain ⟨_, _, _, _, _, _, _, _, _, _, _, _, rfl, _⟩ := h; rfl) | (obtain ⟨_, _, _, _, _, _, _, _, _, _, _, _, _, rfl, _⟩ := h; rfl) | (obtain ⟨_, _, _, _, _, _, _, _, _, _, _, _, _, _, rfl, _⟩ := h; rfl)
  case run =>
    obtain ⟨a, ns, k, rfl, hS, hn, hk, hk2, q⟩ := h
    refine ⟨_, (pss_cons (ps_set (i := 2) sc__law_tank.nd rfl (Or.inl rfl) (pe_op op_add pe_int (pe_op op_mul pe_int (pv 1))))
      (pss_cons (ps_for PassesOwn.never rfl (pi_list (pe_slice sl_list (pv 0) po_none (po_some pe_int))) (pg_name (i := 3) sc__law_tank.nd rfl (Or.inl rfl)) (pss_one (ps_set (i := 2) sc__law_tank.nd rfl (Or.inl rfl) (pe_op op_mod (pe_callTy call_int1 (by rfl) B.int (by decide +kernel) (pa_cons (pe_op op_add (pe_op op_mul (pv 2) pe_int) (pe_op op_mod (pe_callTy call_int1 (by rfl) B.int (by decide +kernel) (pa_cons (pv 3) pa_nil)) pe_int)) pa_nil)) pe_int))))
      (pss_cons (ps_set (i := 4) sc__law_tank.nd rfl (Or.inl rfl) (pe_ifExp (pt_cmpR op_lt (pv 1) (pe_callB call_len_seq (by rfl) B.len (by decide +kernel) (pa_cons (pv 0) pa_nil)) (nomark _)) (pe_callTy call_int1 (by rfl) B.int (by decide +kernel) (pa_cons (pe_ix ix_seq (pv 0) (pv 1) (fun _ _ => rfl)) pa_nil)) (pe_op op_add (pe_op op_mul pe_int (pv 1)) pe_int)))
      (pss_one (ps_ret (pe_lst (pa_cons (pe_ifExp (PW.pt (pw_or (pt_cmpR op_lt (pv 4) pe_int (nomark _)) (pw_or1 (pt_cmpR op_ge (pv 4) (pe_op op_pow pe_int pe_int) (nomark _))))) (pe_callB call_abs (by rfl) B.abs (by decide +kernel) (pa_cons (pv 4) pa_nil)) pe_int) (pa_cons (pe_op op_mod (pe_callTy call_int1 (by rfl) B.int (by decide +kernel) (pa_cons (pe_op op_add (pv 2) (pe_op op_mod (pv 4) pe_int)) pa_nil)) pe_int) (pa_cons pe_int pa_nil))))))))), ?_⟩
    refine ⟨_, rfl, _, _, rfl, rfl, .inl ⟨by decide, by decide⟩, _, _, rfl, rfl, ?_⟩
    -- for entry in script[:11]
    refine ⟨_, rfl, _, rfl, a, _, rfl, hS, fun l nl => ?_⟩
    have eC : ∃ ms : List Int, cutV (ns.map V.int) none (some 11) = ms.map V.int := ⟨(ns.drop (HT.sIx (ns.map V.int).length 0 none)).take (HT.sIx (ns.map V.int).length (ns.map V.int).length (some 11) - HT.sIx (ns.map V.int).length 0 none), by
      unfold cutV
      rw [List.map_take, List.map_drop]⟩
    obtain ⟨ms, eC⟩ := eC
    rw [eC]
    have s1 : Same H (upd H l (.lst (ms.map V.int))) := same_new nl
    refine ⟨l, rfl, ⟨_, .inl (.inl upd_same)⟩, for_list (K := K) (a := l) (xs := ms.map V.int) (fun i σ H2 => ∃ (m : Int) (e3 : Option V), σ = [some (.ref a), some (.int k), some (.int m), e3, none] ∧ H2 = upd H l (.lst (ms.map V.int)))
      ⟨_, none, rfl, rfl⟩ (fun i σ H2 _ ⟨_, _, _, e⟩ => by rw [e]; exact .inl (.inl upd_same)) ?_ ?_⟩
    · rintro i y σ H2 hi ⟨m, e3, rfl, rfl⟩
      obtain ⟨z, _, rfl⟩ := some_map hi
      refine ⟨_, rfl, _, _, rfl, rfl, .inr ⟨by decide, by decide⟩, _, rfl, .inl ⟨_, rfl, _, _, rfl, rfl, (by show (0 : Int) < 1610612741; decide), _, _, rfl, rfl, .inl ⟨_, rfl, _, _, rfl, rfl, (by show (0 : Int) < 1610612741; decide), ?_⟩⟩⟩
      exact ⟨_, _, rfl, rfl⟩
    · rintro σ H2 ⟨m, e3, rfl, rfl⟩
      have hS1 : SqL K (upd H l (.lst (ms.map V.int))) a (ns.map V.int) := s1.seq hS
      dsimp only [tSeq, tAsg]
      refine via (t := tIf _ _ _) (fun v H' => H' = upd H l (.lst (ms.map V.int)) ∧ ∃ own : Int, v = .int own) (fun Q' k' => ?_) ?_
      · refine ⟨_, rfl, _, rfl, a, _, rfl, .inl hS1, _, _, rfl, rfl, _, rfl, ?_⟩
        refine ite2 (fun e => ?_) (fun e => ?_)
        · have e' : k < ((ns.map V.int).length : Int) := of_decide_eq_true e
          rw [List.length_map] at e'
          have hk3 : k.toNat < ns.length := by omega
          refine ⟨_, rfl, _, rfl, rd_raw (w := V.int ns[k.toNat]) hS1 hk (map_some (List.getElem?_eq_getElem hk3)) ?_⟩
          exact .inl ⟨_, rfl, k' _ _ ⟨rfl, _, rfl⟩⟩
        · exact ⟨_, rfl, _, _, rfl, rfl, .inl ⟨by decide, by decide⟩, _, _, rfl, rfl, k' _ _ ⟨rfl, _, rfl⟩⟩
      rintro v H3 ⟨rfl, own, rfl⟩
      -- the list of three
      dsimp only [gName, tRet, tLst, tCons, tNil]
      refine via (t := tIf _ _ _) (fun v H' => H' = upd H l (.lst (ms.map V.int)) ∧ ∃ x : Int, v = .int x ∧ 0 ≤ x) (fun Q' k' => ?_) ?_
      · refine ⟨_, rfl, _, _, rfl, rfl, _, rfl, ite2 (fun e => ?_) (fun e => ?_)⟩
        · refine iteT ?_
          refine ⟨_, rfl, own, rfl, k' _ _ ⟨rfl, _, rfl, ?_⟩⟩
          have e' : own < 0 := of_decide_eq_true e
          rw [if_pos e']
          omega
        · have e0 : ¬ own < 0 := fun z => e (decide_eq_true z)
          refine ⟨_, rfl, _, _, rfl, rfl, (by refine ⟨by decide, by decide, by decide⟩), _, _, rfl, rfl, _, rfl, ite2 (fun e2 => ?_) (fun e2 => ?_)⟩
          · refine ⟨_, rfl, own, rfl, k' _ _ ⟨rfl, _, rfl, ?_⟩⟩
            rw [if_neg e0]
            omega
          · exact k' _ _ ⟨rfl, _, rfl, Int.le_refl 0⟩
      rintro v H3 ⟨rfl, x, rfl, hx⟩
      refine ⟨_, rfl, _, rfl, _, _, rfl, rfl, (by show (0 : Int) < 1610612741; decide), _, _, rfl, rfl, .inl ⟨_, rfl, _, _, rfl, rfl, (by show (0 : Int) < 1610612741; decide), (by show 3 ≤ sizeLine; decide), fun p np => ?_⟩⟩
      refine q p _ (s1.trans (same_new np)) (s1.free np) ⟨x, _, 0, upd_same, hx, ?_, ?_, Int.le_refl 0⟩
      · exact Int.emod_nonneg _ (by decide)
      · exact Int.emod_lt_of_pos _ (by decide)
/-- _law_tap(tank, many) -/
def sp__law_tap (K : PySem.W.Frag) (c : Addr) : Sp := fun vs H Q _ => ∃ (a : Addr) (m : Int), vs = [.ref a, .int m] ∧ TankAt H a ∧ 0 < m ∧ m < 1073741824 ∧
  ∀ r H', 0 ≤ r → r < m → (∀ A, a ∈ A → Go A H H') → TankAt H' a → Q (.int r) H'
theorem cal__law_tap (B : Bl mg) (DD : OwnDef K mg "_law_tap" s__law_tap)   : Cal P w K mg base 1 "_law_tap" (sp__law_tap K c) [] := by
  obtain ⟨f, fd, F, hm⟩ := DD.ex
  refine ⟨f, fd, ["_law_tank_here", "_law_many"], [], F.ok sc__law_tap (fun vs H Q E h => ?len) (fun cdv A outer s H vs Q E hr h => ?run), hm, F.kp, F.binds (fun _ _ _ _ _ _ us hl => match us, hl with | [_, _], _ => rfl), .nil⟩
  case len => first | (obtain ⟨_, rfl, _⟩ := h; rfl) | (obtain ⟨_, _, rfl, _⟩ := h; rfl) | (obtain ⟨_, _, _, rfl, _⟩ := h; rfl) | (obtain ⟨_, _, _, _, rfl, _⟩ := h; rfl) | (obtain ⟨_, _, _, _, _, rfl, _⟩ := h; rfl) | (obtain ⟨_, _, _, _, _, _, rfl, _⟩ := h; rfl) | (obtain ⟨_, _, _, _, _, _, _, rfl, _⟩ := h; rfl) | (obtain ⟨_, _, _, _, _, _, _, _, rfl, _⟩ := h; rfl) | (obtain ⟨_, _, _, _, _, _, _, _, _, rfl, _⟩ := h; rfl) | (obtain ⟨_, _, _, _, _, _, _, _, _, _, rfl, _⟩ := h; rfl) | (obtain ⟨_, _, _, _, _, _, _, _, _, _, _, rfl, _⟩ := h; rfl) | (obtain ⟨_, _, _, _, _, _, _, _, _, _, _, _, rfl, _⟩ := h; rfl) | (obtain ⟨_, _, _, _, _, _, _, _, _, _, _, _, _, rfl, _⟩ := h; rfl) | (obtain ⟨_, _, _, _, _, _, _, _, _, _, _, _, _, _, rfl, _⟩ := h; rfl)
  case run =>
    obtain ⟨a, m, rfl, tk, hm0, hm1, q⟩ := h
    refine ⟨_, (pss_cons (ps_if (pt_cmpR op_gt (pe_ix ix_seq (pv 0) pe_int (fun _ _ => rfl)) pe_int (nomark _)) (pss_cons (ps_asg (pe_callB call_divmod (by rfl) B.divmod (by decide +kernel) (pa_cons (pe_callTy call_int1 (by rfl) B.int (by decide +kernel) (pa_cons (pe_ix ix_seq (pv 0) pe_int (fun _ _ => rfl)) pa_nil)) (pa_cons (pv 1) pa_nil))) (pg_tup (by rfl) (pgs_cons (pg_sub (pv 0) pe_int set_list) (pgs_cons (pg_name (i := 2) sc__law_tap.nd rfl (Or.inl rfl)) pgs_nil))))
      (pss_one (ps_ret (pv 2)))) pss_nil)
      (pss_cons (ps_asg (pe_op op_add (pe_ix ix_seq (pv 0) pe_int (fun _ _ => rfl)) pe_int) (pg_sub (pv 0) pe_int set_list))
      (pss_cons (ps_asg (pe_op op_mod (pe_callTy call_int1 (by rfl) B.int (by decide +kernel) (pa_cons (pe_op op_add (pe_op op_add (pe_op op_mul (pe_ix ix_seq (pv 0) pe_int (fun _ _ => rfl)) pe_int) (pe_op op_mul (pe_op op_fdiv (pe_ix ix_seq (pv 0) pe_int (fun _ _ => rfl)) pe_int) pe_int)) (pe_op op_mul pe_int (pe_ix ix_seq (pv 0) pe_int (fun _ _ => rfl)))) pa_nil)) pe_int) (pg_sub (pv 0) pe_int set_list))
      (pss_one (ps_ret (pe_op op_mod (pe_callTy call_int1 (by rfl) B.int (by decide +kernel) (pa_cons (pe_op op_fdiv (pe_ix ix_seq (pv 0) pe_int (fun _ _ => rfl)) pe_int) pa_nil)) (pv 1))))))), ?_⟩
    obtain ⟨x, y, z, e, hx, hy, hy2, hz⟩ := tk.ex
    have hA : SqL K H a [.int x, .int y, .int z] := .inl (.inl e)
    refine ⟨_, rfl, rd_raw (w := V.int x) hA (Int.le_refl 0) rfl ?_⟩
    refine ⟨_, _, rfl, rfl, _, rfl, ite2 (fun c1 => ?_) (fun c1 => ?_)⟩
    · -- the script's own int
      refine ⟨_, rfl, rd_raw (w := V.int x) hA (Int.le_refl 0) rfl ?_⟩
      refine .inl ⟨_, rfl, _, rfl, _, _, rfl, ⟨hm0, hm1⟩, fun p np => ?_⟩
      have npa : a ≠ p := ne_of_none e np
      have e1 : (upd H p (.tup [.int (x / m), .int (x % m)])) a = some (.lst [.int x, .int y, .int z]) := by rw [upd_ne npa]; exact e
      refine ⟨p, [.int (x / m), .int (x % m)], rfl, .inl (.inl upd_same), rfl, .int (x / m), [.int (x % m)], rfl, ?_⟩
      refine ⟨_, rfl, a, _, _, 0, rfl, rfl, e1, rfl, ?_⟩
      refine ⟨.int (x % m), [], rfl, rfl, _, rfl, ?_⟩
      refine q _ _ (Int.emod_nonneg _ (by omega)) (Int.emod_lt_of_pos _ hm0) (fun A hA => (Go.new np).trans (Go.chg hA)) ⟨x / m, y, z, upd_same, ?_, hy, hy2, hz⟩
      exact Int.ediv_nonneg hx (by omega)
    · refine ⟨_, rfl, rd_raw (w := V.int z) hA (by decide) rfl ?_⟩
      refine ⟨_, _, rfl, rfl, _, rfl, a, _, _, 2, rfl, rfl, e, rfl, ?_⟩
      have hB : SqL K (upd H a (.lst [.int x, .int y, .int (z + 1)])) a [.int x, .int y, .int (z + 1)] := .inl (.inl upd_same)
      refine ⟨_, rfl, rd_raw (w := V.int y) hB (by decide) rfl ?_⟩
      refine ⟨_, _, rfl, rfl, .inr ⟨by decide, by decide⟩, _, rfl, rd_raw (w := V.int y) hB (by decide) rfl ?_⟩
      refine ⟨_, _, rfl, rfl, ⟨by decide, by decide⟩, _, _, rfl, rfl, .inr ⟨by decide, by decide⟩, _, _, rfl, rfl, _, rfl, rd_raw (w := V.int (z + 1)) hB (by decide) rfl ?_⟩
      refine ⟨_, _, rfl, rfl, .inl ⟨by decide, by decide⟩, _, _, rfl, rfl, .inl ⟨_, rfl, _, _, rfl, rfl, (by show (0 : Int) < 1610612741; decide), ?_⟩⟩
      refine ⟨_, rfl, a, _, _, 1, rfl, rfl, upd_same, rfl, ?_⟩
      have hC : ∀ y', SqL K (upd (upd H a (.lst [.int x, .int y, .int (z + 1)])) a (.lst [.int x, .int y', .int (z + 1)])) a [.int x, .int y', .int (z + 1)] := fun _ => .inl (.inl upd_same)
      refine ⟨_, rfl, rd_raw (w := _) (hC _) (by decide) rfl ?_⟩
      refine ⟨_, _, rfl, rfl, ⟨by decide, by decide⟩, .inl ⟨_, rfl, _, rfl, _, _, rfl, rfl, hm0, ?_⟩⟩
      refine q _ _ (Int.emod_nonneg _ (by omega)) (Int.emod_lt_of_pos _ hm0) (fun A hA => (Go.chg hA).trans (Go.chg hA)) ⟨x, _, z + 1, upd_same, hx, ?_, ?_, by omega⟩
      · exact Int.emod_nonneg _ (by decide)
      · exact Int.emod_lt_of_pos _ (by decide)
/-- _law_any(tank, things): one of the things -/
def sp__law_any (K : PySem.W.Frag) (c : Addr) : Sp := fun vs H Q _ => ∃ (a l : Addr) (xs : List V), vs = [.ref a, .ref l] ∧ TankAt H a ∧ SqL K H l xs ∧ l ≠ a ∧ 0 < xs.length ∧ xs.length < 1000 ∧
  ∀ v H', v ∈ xs → (∀ A, a ∈ A → Go A H H') → TankAt H' a → Q v H'
theorem cal__law_any (B : Bl mg) (DD : OwnDef K mg "_law_any" s__law_any) (C__law_tap : Cal P w K mg base 1 "_law_tap" (sp__law_tap K c) [])  : Cal P w K mg base 2 "_law_any" (sp__law_any K c) [] := by
  obtain ⟨f, fd, F, hm⟩ := DD.ex
  refine ⟨f, fd, ["_law_tank_here", "_law_things"], [], F.ok sc__law_any (fun vs H Q E h => ?len) (fun cdv A outer s H vs Q E hr h => ?run), hm, F.kp, F.binds (fun _ _ _ _ _ _ us hl => match us, hl with | [_, _], _ => rfl), .nil⟩
  case len => first | (obtain ⟨_, rfl, _⟩ := h; rfl) | (obtain ⟨_, _, rfl, _⟩ := h; rfl) | (obtain ⟨_, _, _, rfl, _⟩ := h; rfl) | (obtain ⟨_, _, _, _, rfl, _⟩ := h; rfl) | (obtain ⟨_, _, _, _, _, rfl, _⟩ := h; rfl) | (obtain ⟨_, _, _, _, _, _, rfl, _⟩ := h; rfl) | (obtain ⟨_, _, _, _, _, _, _, rfl, _⟩ := h; rfl) | (obtain ⟨_, _, _, _, _, _, _, _, rfl, _⟩ := h; rfl) | (obtain ⟨_, _, _, _, _, _, _, _, _, rfl, _⟩ := h; rfl) | (obtain ⟨_, _, _, _, _, _, _, _, _, _, rfl, _⟩ := h; rfl) | (obtain ⟨_, _, _, _, _, _, _, _, _, _, _, rfl, _⟩ := h; rfl) | (obtain ⟨_, _, _, _, _, _, _, _, _, _, _, _, rfl, _⟩ := h; rfl) | (obtain ⟨_, _, _, _, _, _, _, _, _, _, _, _, _, rfl, _⟩ := h; rfl) | (obtain ⟨_, _, _, _, _, _, _, _, _, _, _, _, _, _, rfl, _⟩ := h; rfl)
  case run =>
    obtain ⟨a, l, xs, rfl, tk, hS, nla, h0, h1, q⟩ := h
    refine ⟨_, (pss_one (ps_ret (pe_ix ix_seq (pv 1) (pe_c C__law_tap hr (by decide) (by rfl) (pa_cons (pv 0) (pa_cons (pe_callB call_len_seq (by rfl) B.len (by decide +kernel) (pa_cons (pv 1) pa_nil)) pa_nil))) (fun _ _ => rfl)))), ?_⟩
    refine ⟨_, rfl, _, rfl, _, rfl, l, xs, rfl, .inl hS, a, _, rfl, tk, by omega, by omega, fun r H' hr0 hr1 go tk' => ?_⟩
    have hi : r.toNat < xs.length := by omega
    have hS' : SqL K H' l xs := by
      have g := go [a] (by simp)
      rcases hS with (z | ⟨o, z⟩) | z
      · exact .inl (.inl (g.keep _ _ (by simpa using nla) z))
      · exact .inl (.inr ⟨o, g.keep _ _ (by simpa using nla) z⟩)
      · exact .inr z
    exact rd_raw hS' hr0 (List.getElem?_eq_getElem hi) (q _ _ (List.getElem_mem hi) go tk')
end

section
variable {P : Program} {w : World} {K : PySem.W.Frag} {mg : Str → Option Value} {base : Heap} {c : Addr}
/-- _law_low(top, bottom) -/
def sp__law_low (K : PySem.W.Frag) (c : Addr) : Sp := fun vs H Q _ => ∃ (t b : Int), vs = [.int t, .int b] ∧ 0 < b ∧ b.natAbs < 2 ^ 8000 ∧
  ∀ p, H p = none → Q (.ref p) (upd H p (.tup [.int (lowQ t b).1, .int (lowQ t b).2]))
theorem cal__law_low (B : Bl mg) (DD : OwnDef K mg "_law_low" s__law_low)   : Cal P w K mg base 1 "_law_low" (sp__law_low K c) [] := by
  obtain ⟨f, fd, F, hm⟩ := DD.ex
  refine ⟨f, fd, ["_law_top", "_law_bottom"], [], F.ok sc__law_low (fun vs H Q E h => ?len) (fun cdv A outer s H vs Q E hr h => ?run), hm, F.kp, F.binds (fun _ _ _ _ _ _ us hl => match us, hl with | [_, _], _ => rfl), .nil⟩
  case len => first | (obtain ⟨_, rfl, _⟩ := h; rfl) | (obtain ⟨_, _, rfl, _⟩ := h; rfl) | (obtain ⟨_, _, _, rfl, _⟩ := h; rfl) | (obtain ⟨_, _, _, _, rfl, _⟩ := h; rfl) | (obtain ⟨_, _, _, _, _, rfl, _⟩ := h; rfl) | (obtain ⟨_, _, _, _, _, _, rfl, _⟩ := h; rfl) | (obtain ⟨_, _, _, _, _, _, _, rfl, _⟩ := h; rfl) | (obtain ⟨_, _, _, _, _, _, _, _, rfl, _⟩ := h; rfl) | (obtain ⟨_, _, _, _, _, _, _, _, _, rfl, _⟩ := h; rfl) | (obtain ⟨_, _, _, _, _, _, _, _, _, _, rfl, _⟩ := h; rfl) | (obtain ⟨_, _, _, _, _, _, _, _, _, _, _, rfl, _⟩ := h; rfl) | (obtain ⟨_, _, _, _, _, _, _, _, _, _, _, _, rfl, _⟩ := h; rfl) | (obtain ⟨_, _, _, _, _, _, _, _, _, _, _, _, _, rfl, _⟩ := h; rfl) | (obtain ⟨_, _, _, _, _, _, _, _, _, _, _, _, _, _, rfl, _⟩ := h; rfl)
  case run =>
    obtain ⟨t, b, rfl, hb, hb2, q⟩ := h
    refine ⟨_, (pss_cons (ps_par (i := 2) (j := 3) (by rfl) sc__law_low.nd rfl rfl (by decide) rfl rfl (pa_cons (pe_callB call_abs (by rfl) B.abs (by decide +kernel) (pa_cons (pv 0) pa_nil)) (pa_cons (pv 1) pa_nil)) (by rfl))
      (pss_cons (ps_while PassesOwn.never (pt_cmpR op_gt (pv 3) pe_int (nomark _)) (pss_one (ps_par (i := 2) (j := 3) (by rfl) sc__law_low.nd rfl rfl (by decide) rfl rfl (pa_cons (pv 3) (pa_cons (pe_op op_mod (pe_callTy call_int1 (by rfl) B.int (by decide +kernel) (pa_cons (pv 2) pa_nil)) (pe_callTy call_int1 (by rfl) B.int (by decide +kernel) (pa_cons (pv 3) pa_nil))) pa_nil)) (by rfl))))
      (pss_one (ps_ret (pe_tup (pa_cons (pe_op op_fdivW (pv 0) (pv 2)) (pa_cons (pe_op op_fdivW (pv 1) (pv 2)) pa_nil))))))), ?_⟩
    have hg : 0 < Nat.gcd t.natAbs b.natAbs := gcd_pos hb
    have hg2 : Nat.gcd t.natAbs b.natAbs < 2 ^ 8000 := Nat.lt_of_le_of_lt (gcd_le hb) hb2
    refine ⟨_, rfl, t, rfl, _, rfl, _, _, rfl, ?_⟩
    refine while_by (fun σ H2 => ∃ m n : Nat, σ = [some (.int t), some (.int b), some (.int (m : Int)), some (.int (n : Int))] ∧ H2 = H ∧ Nat.gcd m n = Nat.gcd t.natAbs b.natAbs)
      (fun σ _ => match σ with | [_, _, _, some (.int n)] => n.toNat | _ => 0) ⟨t.natAbs, b.natAbs, ?_, rfl, rfl⟩ ?_ ?_
    · have e1 : (if t < 0 then -t else t) = ((t.natAbs : Nat) : Int) := by split <;> omega
      have e2 : b = ((b.natAbs : Nat) : Int) := by omega
      show [some (V.int t), some (V.int b), some (V.int (if t < 0 then -t else t)), some (V.int b)] = _
      rw [e1, ← e2]
    · rintro σ H2 ⟨m, n, rfl, rfl, hmn⟩
      refine ⟨_, rfl, _, _, rfl, rfl, _, rfl, ite2 (fun e => ?_) (fun e => ?_)⟩
      · have hn : 0 < (n : Int) := of_decide_eq_true e
        refine ⟨_, rfl, _, rfl, .inl ⟨_, rfl, _, rfl, .inl ⟨_, rfl, _, _, rfl, rfl, hn, _, _, rfl, ⟨n, m % n, rfl, rfl, ?_⟩, ?_⟩⟩⟩
        · rw [← hmn, Nat.gcd_comm n (m % n), Nat.gcd_comm m n]
          exact (Nat.gcd_rec n m).symm
        · show ((m : Int) % (n : Int)).toNat < (n : Int).toNat
          have := Int.emod_lt_of_pos (m : Int) hn
          have := Int.emod_nonneg (m : Int) (show (n : Int) ≠ 0 by omega)
          omega
      · have hn : ¬ 0 < (n : Int) := fun z => e (decide_eq_true z)
        have e0 : n = 0 := by omega
        subst e0
        rw [Nat.gcd_zero_right] at hmn
        subst hmn
        have hd : CDivW t ((Nat.gcd t.natAbs b.natAbs : Nat) : Int) := wide_div (b := 8000) (by omega) (by simpa using hg2) (by decide) (by decide)
        have hd2 : CDivW b ((Nat.gcd t.natAbs b.natAbs : Nat) : Int) := wide_div (b := 8000) (by omega) (by simpa using hg2) (by decide) (by decide)
        exact ⟨_, rfl, _, rfl, _, _, rfl, rfl, hd, _, rfl, _, rfl, _, _, rfl, rfl, hd2, by show 2 ≤ sizeLine; decide, fun p np => q p np⟩
    · rintro σ H2 Q1 Q2 hQ ⟨v, e, i, j, e1, e2, k, ek, q'⟩
      exact ⟨v, e, i, j, e1, e2, k, ek, hQ _ _ q'⟩
def sp__law_exact (K : PySem.W.Frag) (c : Addr) : Sp := fun vs H Q _ => ∃ (A : List Addr) (v : V) (d : PyData), vs = [v] ∧ Is K A H v d ∧
  ((∃ i, d = .int i ∧ ∀ p, H p = none → Q (.ref p) (upd H p (.tup [.int i, .int 1]))) ∨
    (∃ q : Int × Int, d = encQ q ∧ okQ q ∧ ∀ p, H p = none → Q (.ref p) (upd H p (.tup [.int (lowQ q.1 q.2).1, .int (lowQ q.1 q.2).2]))))
theorem cal__law_exact (B : Bl mg) (DD : OwnDef K mg "_law_exact" s__law_exact) (C__law_low : Cal P w K mg base 1 "_law_low" (sp__law_low K c) [])  : Cal P w K mg base 2 "_law_exact" (sp__law_exact K c) [] := by
  obtain ⟨f, fd, F, hm⟩ := DD.ex
  refine ⟨f, fd, ["_law_thing"], [], F.ok sc__law_exact (fun vs H Q E h => ?len) (fun cdv A outer s H vs Q E hr h => ?run), hm, F.kp, F.binds (fun _ _ _ _ _ _ us hl => match us, hl with | [_], _ => rfl), .nil⟩
  case len => first | (obtain ⟨_, rfl, _⟩ := h; rfl) | (obtain ⟨_, _, rfl, _⟩ := h; rfl) | (obtain ⟨_, _, _, rfl, _⟩ := h; rfl) | (obtain ⟨_, _, _, _, rfl, _⟩ := h; rfl) | (obtain ⟨_, _, _, _, _, rfl, _⟩ := h; rfl) | (obtain ⟨_, _, _, _, _, _, rfl, _⟩ := h; rfl) | (obtain ⟨_, _, _, _, _, _, _, rfl, _⟩ := h; rfl) | (obtain ⟨_, _, _, _, _, _, _, _, rfl, _⟩ := h; rfl) | (obtain ⟨_, _, _, _, _, _, _, _, _, rfl, _⟩ := h; rfl) | (obtain ⟨_, _, _, _, _, _, _, _, _, _, rfl, _⟩ := h; rfl) | (obtain ⟨_, _, _, _, _, _, _, _, _, _, _, rfl, _⟩ := h; rfl) | (obtain ⟨_, _, _, _, _, _, _, _, _, _, _, _, rfl, _⟩ := h; rfl) | (obtain ⟨_, _, _, _, _, _, _, _, _, _, _, _, _, rfl, _⟩ := h; rfl) | (obtain ⟨_, _, _, _, _, _, _, _, _, _, _, _, _, _, rfl, _⟩ := h; rfl)
  case run =>
    obtain ⟨A0, v, d, rfl, hv, q⟩ := h
    refine ⟨_, (pss_one (ps_ret (pe_ifExp (pt_val (pe_callB call_isi (by rfl) B.isinstance (by decide +kernel) (pa_cons (pv 0) (pa_cons (pe_bltn (v := .ty "tuple") (by rfl) B.tuple (by decide +kernel) rfl) pa_nil)))) (pe_c C__law_low hr (by decide) (by rfl) (pa_cons (pe_ix ix_seq (pv 0) pe_int (fun _ _ => rfl)) (pa_cons (pe_ix ix_seq (pv 0) pe_int (fun _ _ => rfl)) pa_nil))) (pe_tup (pa_cons (pv 0) (pa_cons pe_int pa_nil)))))), ?_⟩
    rcases q with ⟨i, rfl, q⟩ | ⟨p, rfl, hp, q⟩
    · obtain rfl := is_int hv
      exact ⟨_, rfl, _, _, _, _, _, rfl, .ty _, hv.full.ty, kit_ty (kit_tup _), _, rfl, _, rfl, by show 2 ≤ sizeLine; decide, fun p np => q p np⟩
    · refine ⟨_, rfl, _, _, _, _, _, rfl, .ty _, hv.full.ty, kit_ty (kit_tup _), _, rfl, ?_⟩
      refine ⟨_, rfl, rd_int hv (by decide) rfl ?_⟩
      refine ⟨_, rfl, rd_int hv (by decide) rfl ?_⟩
      exact ⟨_, _, rfl, hp.1, hp.2, fun p np => q p np⟩
/-- _law_under(one, two) -/
def sp__law_under (K : PySem.W.Frag) (c : Addr) : Sp := fun vs H Q _ => ∃ (A : List Addr) (v u : V) (p q : Int × Int), vs = [v, u] ∧ Is K A H v (encQ p) ∧ Is K A H u (encQ q) ∧ smallQ p ∧ smallQ q ∧
  Q (.bl (decide (p.1 * q.2 < q.1 * p.2))) H
theorem cal__law_under (B : Bl mg) (DD : OwnDef K mg "_law_under" s__law_under)   : Cal P w K mg base 1 "_law_under" (sp__law_under K c) [] := by
  obtain ⟨f, fd, F, hm⟩ := DD.ex
  refine ⟨f, fd, ["_law_one", "_law_two"], [], F.ok sc__law_under (fun vs H Q E h => ?len) (fun cdv A outer s H vs Q E hr h => ?run), hm, F.kp, F.binds (fun _ _ _ _ _ _ us hl => match us, hl with | [_, _], _ => rfl), .nil⟩
  case len => first | (obtain ⟨_, rfl, _⟩ := h; rfl) | (obtain ⟨_, _, rfl, _⟩ := h; rfl) | (obtain ⟨_, _, _, rfl, _⟩ := h; rfl) | (obtain ⟨_, _, _, _, rfl, _⟩ := h; rfl) | (obtain ⟨_, _, _, _, _, rfl, _⟩ := h; rfl) | (obtain ⟨_, _, _, _, _, _, rfl, _⟩ := h; rfl) | (obtain ⟨_, _, _, _, _, _, _, rfl, _⟩ := h; rfl) | (obtain ⟨_, _, _, _, _, _, _, _, rfl, _⟩ := h; rfl) | (obtain ⟨_, _, _, _, _, _, _, _, _, rfl, _⟩ := h; rfl) | (obtain ⟨_, _, _, _, _, _, _, _, _, _, rfl, _⟩ := h; rfl) | (obtain ⟨_, _, _, _, _, _, _, _, _, _, _, rfl, _⟩ := h; rfl) | (obtain ⟨_, _, _, _, _, _, _, _, _, _, _, _, rfl, _⟩ := h; rfl) | (obtain ⟨_, _, _, _, _, _, _, _, _, _, _, _, _, rfl, _⟩ := h; rfl) | (obtain ⟨_, _, _, _, _, _, _, _, _, _, _, _, _, _, rfl, _⟩ := h; rfl)
  case run =>
    obtain ⟨A0, v, u, p, q, rfl, hv, hu, sp, sq, k⟩ := h
    refine ⟨_, (pss_one (ps_ret (pe_cmpR op_lt (pe_op op_mulW (pe_ix ix_seq (pv 0) pe_int (fun _ _ => rfl)) (pe_ix ix_seq (pv 1) pe_int (fun _ _ => rfl))) (pe_op op_mulW (pe_ix ix_seq (pv 1) pe_int (fun _ _ => rfl)) (pe_ix ix_seq (pv 0) pe_int (fun _ _ => rfl))) (nomark _)))), ?_⟩
    refine ⟨_, rfl, rd_int hv (by decide) rfl ?_⟩
    refine ⟨_, rfl, rd_int hu (by decide) rfl ?_⟩
    refine ⟨_, _, rfl, rfl, wide_mul sp.1 sq.2 (by decide) (by decide) (by decide), _, rfl, rd_int hu (by decide) rfl ?_⟩
    refine ⟨_, rfl, rd_int hv (by decide) rfl ?_⟩
    exact ⟨_, _, rfl, rfl, wide_mul sq.1 sp.2 (by decide) (by decide) (by decide), _, _, rfl, rfl, k⟩
end

section
variable {P : Program} {w : World} {K : PySem.W.Frag} {mg : Str → Option Value} {base : Heap} {c : Addr}
/-- _law_written(pair) -/
def sp__law_written (K : PySem.W.Frag) (c : Addr) : Sp := fun vs H Q _ => ∃ (v : V) (A : List Addr) (q : Int × Int), vs = [v] ∧ Is K A H v (encQ q) ∧ OkW q ∧ Q (.str (SX.S (qL q))) H
theorem cal__law_written (B : Bl mg) (DD : OwnDef K mg "_law_written" s__law_written)   : Cal P w K mg base 1 "_law_written" (sp__law_written K c) [] := by
  obtain ⟨f, fd, F, hm⟩ := DD.ex
  refine ⟨f, fd, ["_law_one"], [], F.ok sc__law_written (fun vs H Q E h => ?len) (fun cdv A outer s H vs Q E hr h => ?run), hm, F.kp, F.binds (fun _ _ _ _ _ _ us hl => match us, hl with | [_], _ => rfl), .nil⟩
  case len => first | (obtain ⟨_, rfl, _⟩ := h; rfl) | (obtain ⟨_, _, rfl, _⟩ := h; rfl) | (obtain ⟨_, _, _, rfl, _⟩ := h; rfl) | (obtain ⟨_, _, _, _, rfl, _⟩ := h; rfl) | (obtain ⟨_, _, _, _, _, rfl, _⟩ := h; rfl) | (obtain ⟨_, _, _, _, _, _, rfl, _⟩ := h; rfl) | (obtain ⟨_, _, _, _, _, _, _, rfl, _⟩ := h; rfl) | (obtain ⟨_, _, _, _, _, _, _, _, rfl, _⟩ := h; rfl) | (obtain ⟨_, _, _, _, _, _, _, _, _, rfl, _⟩ := h; rfl) | (obtain ⟨_, _, _, _, _, _, _, _, _, _, rfl, _⟩ := h; rfl) | (obtain ⟨_, _, _, _, _, _, _, _, _, _, _, rfl, _⟩ := h; rfl) | (obtain ⟨_, _, _, _, _, _, _, _, _, _, _, _, rfl, _⟩ := h; rfl) | (obtain ⟨_, _, _, _, _, _, _, _, _, _, _, _, _, rfl, _⟩ := h; rfl) | (obtain ⟨_, _, _, _, _, _, _, _, _, _, _, _, _, _, rfl, _⟩ := h; rfl)
  case run =>
    obtain ⟨v, A0, q, rfl, hv, ok, k⟩ := h
    refine ⟨_, (pss_one (ps_ret (pe_ifExp (pt_cmpR op_eq (pe_ix ix_seq (pv 0) pe_int (fun _ _ => rfl)) pe_int (nomark _)) (pe_callTy call_str_int (by rfl) B.str (by decide +kernel) (pa_cons (pe_ix ix_seq (pv 0) pe_int (fun _ _ => rfl)) pa_nil)) (pe_op op_add_str (pe_op op_add_str (pe_callTy call_str_int (by rfl) B.str (by decide +kernel) (pa_cons (pe_ix ix_seq (pv 0) pe_int (fun _ _ => rfl)) pa_nil)) pe_str) (pe_callTy call_str_int (by rfl) B.str (by decide +kernel) (pa_cons (pe_ix ix_seq (pv 0) pe_int (fun _ _ => rfl)) pa_nil)))))), ?_⟩
    refine ⟨_, rfl, rd_int hv (by decide) rfl ?_⟩
    refine ⟨rfl, _, rfl, ite2 (fun e => ?_) (fun e => ?_)⟩
    · have e1 : q.2 = 1 := V.int.inj (of_decide_eq_true e)
      refine ⟨_, rfl, rd_int hv (by decide) rfl ?_⟩
      refine ⟨_, rfl, log2_50 ok.a ok.a2, ?_⟩
      have z : SX.S (qL q) = Str.ofString (toString q.1) := by rw [toS ok.a]; unfold qL; rw [if_pos e1]
      rw [z] at k
      exact k
    · have e1 : ¬ q.2 = 1 := fun z => e (decide_eq_true (congrArg V.int z))
      have l1 := numL_50 ok.a ok.a2
      have l2 := numL_50 (Int.le_of_lt ok.b) ok.b2
      have sl : sizeLine = 16777216 := sizeLine_eq
      have c47 : ("/" : Str) = SX.S [47] := by decide +kernel
      refine ⟨_, rfl, rd_int hv (by decide) rfl ?_⟩
      refine ⟨_, rfl, log2_50 ok.a ok.a2, _, _, rfl, rfl, ?_, _, rfl, rd_int hv (by decide) rfl ?_⟩
      · rw [toS ok.a, SX.S_len, c47, SX.S_len, sl, List.length_cons, List.length_nil]; omega
      refine ⟨_, rfl, log2_50 (Int.le_of_lt ok.b) ok.b2, _, _, rfl, rfl, ?_, ?_⟩
      · rw [toS ok.a, toS (Int.le_of_lt ok.b), c47, SX.S_cat, SX.S_len, SX.S_len, sl, List.length_append, List.length_cons, List.length_nil]; omega
      have z : SX.S (qL q) = Str.ofString (toString q.1) ++ ("/" : Str) ++ Str.ofString (toString q.2) := by
        rw [toS ok.a, toS (Int.le_of_lt ok.b), c47, SX.S_cat, SX.S_cat]
        unfold qL
        rw [if_neg e1, List.append_assoc]
        rfl
      rw [z] at k
      exact k
end

/-! ### the law's rules, drawn -/
/-- a head that may be drawn for the raw offset -/
structure DH (o : Int × Int) (hd : List (Int × Int)) : Prop where
  len : hd.length ≤ 8
  oks : ∀ q ∈ hd, 0 ≤ q.1 ∧ q.1 < 1000 ∧ 0 < q.2 ∧ q.2 < 1000 ∧ lowQ q.1 q.2 = q
  inc : ∀ (i : Nat) (p q : Int × Int), hd[i]? = some p → hd[i + 1]? = some q → ltQ p q
  last : ∀ m, hd.getLast? = some m → ltQ m (plainQ o hd.length)
/-- what an unfinished one keeps -/
structure DH0 (hd : List (Int × Int)) : Prop where
  len : hd.length ≤ 8
  oks : ∀ q ∈ hd, 0 ≤ q.1 ∧ q.1 < 1000 ∧ 0 < q.2 ∧ q.2 < 1000 ∧ lowQ q.1 q.2 = q
  inc : ∀ (i : Nat) (p q : Int × Int), hd[i]? = some p → hd[i + 1]? = some q → ltQ p q
structure OkO (o : Int × Int) : Prop where
  a : 0 ≤ o.1
  b : o.1 ≤ o.2
  c : 0 < o.2
  d : o.2 < 1000
theorem eqv_nil (ds : List PyData) : PyData.eqv (.list ds) (.list []) = ds.isEmpty := by cases ds <;> rfl
theorem noDictQ : ∀ hd : List (Int × Int), PyData.hasDictAll (hd.map encQ) = false
  | [] => rfl
  | _ :: hd => by rw [List.map_cons]; show (false || PyData.hasDictAll _) = false; rw [noDictQ hd]; rfl
theorem noDictL (hd : List (Int × Int)) : (PyData.list (hd.map encQ)).hasDict = false := noDictQ hd
theorem layQ (q : Int × Int) : PyData.canLay0 (encQ q) = true ∧ PyData.depth (encQ q) = 1 := by
  unfold encQ
  constructor
  · simp only [PyData.canLay0, PyData.canLayAll0, Bool.and_self]
  · simp only [PyData.depth, PyData.depthAll]
    rfl
theorem layQs : ∀ hd : List (Int × Int), PyData.canLayAll0 (hd.map encQ) = true ∧ PyData.depthAll (hd.map encQ) ≤ 1
  | [] => by simp [PyData.canLayAll0, PyData.depthAll]
  | q :: hd => by
    obtain ⟨a1, a2⟩ := layQ q
    obtain ⟨b1, b2⟩ := layQs hd
    constructor
    · rw [List.map_cons, PyData.canLayAll0, a1, b1]; rfl
    · rw [List.map_cons, PyData.depthAll, a2]; omega
theorem shapedQ (hd : List (Int × Int)) : SeqAt.shaped (.list (hd.map encQ)) = true := by
  obtain ⟨b1, b2⟩ := layQs hd
  refine (Bool.and_eq_true_iff).mpr ⟨?_, decide_eq_true ?_⟩
  · simp only [PyData.canLay0]; exact b1
  · simp only [PyData.depth]; omega
/-- the heap after sorted(set(..)) -/
def HCx (w : World) (H : Hp) (S0 p : Addr) (zs : List Int) (n : Nat) (ns : List Int) : Hp := upd (upd H S0 (SetO w S0 (fun j => decide (j ∈ zs)) n)) p (.lst (ns.map V.int))
/-- the head that is drawn, before its end is cut -/
theorem DH0.of {ns : List Int} {bt : Int} (b1 : 1 ≤ bt) (b2 : bt ≤ 12) (pw : ns.Pairwise (· < ·)) (hz : ∀ z ∈ ns, 0 ≤ z ∧ z < 200) (len : ns.length ≤ 8) : DH0 (ns.map fun z => lowQ z bt) := by
  refine ⟨by rw [List.length_map]; exact len, fun q hq => ?_, fun i p q hp hq => ?_⟩
  · obtain ⟨z, hm, rfl⟩ := List.mem_map.mp hq
    obtain ⟨z0, z1⟩ := hz z hm
    have hb : 0 < bt := by omega
    have a1 := low_le1 (b := bt) z0
    have a2 := low_le2 (t := z) (b := bt) (by omega)
    exact ⟨low_nn z0, by omega, low_pos hb, by omega, low_low z0 hb⟩
  · obtain ⟨x, hx, rfl⟩ := some_map hp
    obtain ⟨y, hy, rfl⟩ := some_map hq
    obtain ⟨i1, e1⟩ := List.getElem?_eq_some_iff.mp hx
    obtain ⟨i2, e2⟩ := List.getElem?_eq_some_iff.mp hy
    refine low_lt (by omega) ?_
    rw [← e1, ← e2]
    exact List.pairwise_iff_getElem.mp pw i (i + 1) i1 i2 (by omega)
theorem DH0.take {hd : List (Int × Int)} (d : DH0 hd) (n : Nat) : DH0 (hd.take n) := by
  refine ⟨Nat.le_trans (by rw [List.length_take]; exact Nat.min_le_right _ _) d.len, fun q hq => d.oks q (List.mem_of_mem_take hq), fun i p q hp hq => ?_⟩
  rw [List.getElem?_take] at hp hq
  split at hp
  · split at hq
    · exact d.inc i p q hp hq
    · cases hq
  · cases hp
section
variable {P : Program} {w : World} {K : PySem.W.Frag} {mg : Str → Option Value} {base : Heap} {c : Addr}
def sp__law_head (K : PySem.W.Frag) (c : Addr) : Sp := fun vs H Q _ => ∃ (a : Addr) (v : V) (A : List Addr) (o : Int × Int), vs = [.ref a, v] ∧ TankAt H a ∧ a ∈ A ∧ Hd A H ∧ Is K A H v (encQ o) ∧ OkO o ∧
  ∀ u H' hd, Go A H H' → TankAt H' a → Is K A H' u (.list (hd.map encQ)) → DH o hd → Q u H'
theorem cal__law_head (B : Bl mg) (DD : OwnDef K mg "_law_head" s__law_head) (C__law_any : Cal P w K mg base 2 "_law_any" (sp__law_any K c) []) (C__law_low : Cal P w K mg base 1 "_law_low" (sp__law_low K c) []) (C__law_under : Cal P w K mg base 1 "_law_under" (sp__law_under K c) []) (C__law_tap : Cal P w K mg base 1 "_law_tap" (sp__law_tap K c) [])  : Cal P w K mg base 3 "_law_head" (sp__law_head K c) [] := by
  obtain ⟨f, fd, F, hm⟩ := DD.ex
  refine ⟨f, fd, ["_law_tank_here", "_law_top"], [], F.ok sc__law_head (fun vs H Q E h => ?len) (fun cdv A outer s H vs Q E hr h => ?run), hm, F.kp, F.binds (fun _ _ _ _ _ _ us hl => match us, hl with | [_, _], _ => rfl), .nil⟩
  case len => first | (obtain ⟨_, rfl, _⟩ := h; rfl) | (obtain ⟨_, _, rfl, _⟩ := h; rfl) | (obtain ⟨_, _, _, rfl, _⟩ := h; rfl) | (obtain ⟨_, _, _, _, rfl, _⟩ := h; rfl) | (obtain ⟨_, _, _, _, _, rfl, _⟩ := h; rfl) | (obtain ⟨_, _, _, _, _, _, rfl, _⟩ := h; rfl) | (obtain ⟨_, _, _, _, _, _, _, rfl, _⟩ := h; rfl) | (obtain ⟨_, _, _, _, _, _, _, _, rfl, _⟩ := h; rfl) | (obtain ⟨_, _, _, _, _, _, _, _, _, rfl, _⟩ := h; rfl) | (obtain ⟨_, _, _, _, _, _, _, _, _, _, rfl, _⟩ := h; rfl) | (obtain ⟨_, _, _, _, _, _, _, _, _, _, _, rfl, _⟩ := h; rfl) | (obtain ⟨_, _, _, _, _, _, _, _, _, _, _, _, rfl, _⟩ := h; rfl) | (obtain ⟨_, _, _, _, _, _, _, _, _, _, _, _, _, rfl, _⟩ := h; rfl) | (obtain ⟨_, _, _, _, _, _, _, _, _, _, _, _, _, _, rfl, _⟩ := h; rfl)
  case run =>
    obtain ⟨a, v, A0, o, rfl, tk, aA, hA, hv, ok, k⟩ := h
    refine ⟨_, (pss_cons (ps_asg (pe_tup (pa_cons (pe_c C__law_any hr (by decide) (by rfl) (pa_cons (pv 0) (pa_cons (pe_lst (pa_cons pe_int (pa_cons pe_int (pa_cons pe_int (pa_cons pe_int (pa_cons pe_int (pa_cons pe_int (pa_cons pe_int pa_nil)))))))) pa_nil))) (pa_cons (pe_c C__law_any hr (by decide) (by rfl) (pa_cons (pv 0) (pa_cons (pe_lst (pa_cons pe_int (pa_cons pe_int (pa_cons pe_int (pa_cons pe_int (pa_cons pe_int (pa_cons pe_int pa_nil))))))) pa_nil))) pa_nil))) (pg_tup (by rfl) (pgs_cons (pg_name (i := 2) sc__law_head.nd rfl (Or.inl rfl)) (pgs_cons (pg_name (i := 3) sc__law_head.nd rfl (Or.inr rfl)) pgs_nil))))
      (pss_cons (ps_setLc (i := 4) (own := [("_law_k", 5)]) (by rfl) sc__law_head.nd rfl rfl (sw_true rfl rfl rfl (by decide +kernel)) (pi_range1 (by rfl) B.range (pa_cons (pv 2) pa_nil)) (blkOk_by (own := [("_law_k", 5)]) (N := ["_law_tank_here", "_law_top", "_law_size", "_law_bottom", "_law_drawn", "_law_k", "_law_numbers", "_law_drawn_one"]) (sc := defScope s__law_head) (by decide +kernel)) (fun _ _ _ _ _ => (pg_name (i := 5) sc__law_head.nd rfl (Or.inl rfl))) (fun _ _ _ _ _ => pts_nil) (fun _ _ _ _ _ => (pe_op op_fdiv (pe_callTy call_int1 (by rfl) B.int (by decide +kernel) (pa_cons (pe_op op_add (pe_op op_mul (pv 3) (pv 5)) (pe_c C__law_tap hr (by decide) (by rfl) (pa_cons (pv 0) (pa_cons (pe_op op_add (pv 3) pe_int) pa_nil)))) pa_nil)) (pe_c C__law_any hr (by decide) (by rfl) (pa_cons (pv 0) (pa_cons (pe_lst (pa_cons pe_int (pa_cons pe_int (pa_cons pe_int pa_nil)))) pa_nil))))))
      (pss_cons (ps_setLc (i := 6) (own := [("_law_drawn_one", 7)]) (by rfl) sc__law_head.nd rfl rfl (sw_true rfl rfl rfl (by decide +kernel)) (pi_list (pe_callB (cr_sortedSet rfl) (by rfl) B.sorted (by decide +kernel) (pa_cons (pe_callTy (cr_setL rfl) (by rfl) B.set (by decide +kernel) (pa_cons (pv 4) pa_nil)) pa_nil))) (blkOk_by (own := [("_law_drawn_one", 7)]) (N := ["_law_tank_here", "_law_top", "_law_size", "_law_bottom", "_law_drawn", "_law_k", "_law_numbers", "_law_drawn_one"]) (sc := defScope s__law_head) (by decide +kernel)) (fun _ _ _ _ _ => (pg_name (i := 7) sc__law_head.nd rfl (Or.inl rfl))) (fun _ _ _ _ _ => pts_nil) (fun _ _ _ _ _ => (pe_c C__law_low hr (by decide) (by rfl) (pa_cons (pv 7) (pa_cons (pv 3) pa_nil)))))
      (pss_cons (ps_while PassesOwn.never (PW.pt (pw_and (pt_cmpR (op_neD hr.units) (pv 6) (pe_lst pa_nil) (nomark _)) (pw_and1 (pt_not (pt_val (pe_c C__law_under hr (by decide) (by rfl) (pa_cons (pe_ix ix_seq (pv 6) (pe_un un_neg pe_int) (fun _ _ => rfl)) (pa_cons (pe_tup (pa_cons (pe_op op_add (pe_op op_mul (pe_callB call_len_seq (by rfl) B.len (by decide +kernel) (pa_cons (pv 6) pa_nil)) (pe_ix ix_seq (pv 1) pe_int (fun _ _ => rfl))) (pe_ix ix_seq (pv 1) pe_int (fun _ _ => rfl))) (pa_cons (pe_ix ix_seq (pv 1) pe_int (fun _ _ => rfl)) pa_nil))) pa_nil)))))))) (pss_one (ps_set (i := 6) sc__law_head.nd rfl (Or.inl rfl) (pe_slice sl_list (pv 6) po_none (po_some (pe_un un_neg pe_int))))))
      (pss_one (ps_ret (pv 6))))))), ?_⟩
    have hu : _ := hr.units
    -- size, bottom
    refine ⟨_, rfl, by show 7 ≤ sizeLine; decide, fun l1 nl1 => ?_⟩
    have n1 : a ≠ l1 := fun z => tk.ne (by rw [z]; exact nl1)
    refine ⟨a, l1, _, rfl, tk.keep (same_new nl1), .inl (.inl upd_same), n1.symm, by decide, by decide, fun y1 H1 hy1 go1 tk1 => ?_⟩
    refine ⟨_, rfl, by show 6 ≤ sizeLine; decide, fun l2 nl2 => ?_⟩
    have n2 : a ≠ l2 := fun z => tk1.ne (by rw [z]; exact nl2)
    refine ⟨a, l2, _, rfl, tk1.keep (same_new nl2), .inl (.inl upd_same), n2.symm, by decide, by decide, fun y2 H2 hy2 go2 tk2 => ?_⟩
    obtain ⟨sz, rfl, sz8⟩ : ∃ sz : Nat, y1 = .int ((sz : Nat) : Int) ∧ sz ≤ 8 := by
      simp only [List.mem_cons, List.not_mem_nil, or_false] at hy1
      rcases hy1 with z | z | z | z | z | z | z
      · exact ⟨0, z, by decide⟩
      · exact ⟨0, z, by decide⟩
      · exact ⟨1, z, by decide⟩
      · exact ⟨1, z, by decide⟩
      · exact ⟨2, z, by decide⟩
      · exact ⟨3, z, by decide⟩
      · exact ⟨8, z, by decide⟩
    obtain ⟨bt, rfl, bt1, bt12⟩ : ∃ bt : Int, y2 = .int bt ∧ 1 ≤ bt ∧ bt ≤ 12 := by
      simp only [List.mem_cons, List.not_mem_nil, or_false] at hy2
      rcases hy2 with z | z | z | z | z | z
      · exact ⟨1, z, by decide, by decide⟩
      · exact ⟨2, z, by decide, by decide⟩
      · exact ⟨3, z, by decide, by decide⟩
      · exact ⟨7, z, by decide, by decide⟩
      · exact ⟨10, z, by decide, by decide⟩
      · exact ⟨12, z, by decide, by decide⟩
    have g2 : Go A0 H H2 := ((Go.new nl1).trans (go1 A0 aA)).trans ((Go.new nl2).trans (go2 A0 aA))
    refine ⟨by show 2 ≤ sizeLine; decide, fun t0 nt => ⟨t0, [_, _], rfl, .inl (.inl upd_same), rfl, _, _, rfl, _, [], rfl, rfl, ?_⟩⟩
    have gB : Go A0 H (upd H2 t0 (.tup [.int ((sz : Nat) : Int), .int bt])) := g2.trans (Go.new nt)
    have tkB : TankAt (upd H2 t0 (.tup [.int ((sz : Nat) : Int), .int bt])) a := tk2.keep (same_new nt)
    generalize upd H2 t0 (.tup [.int ((sz : Nat) : Int), .int bt]) = HB at gB tkB ⊢
    have hA2 := gB.held hA
    -- drawn = [..]
    refine ⟨_, rfl, _, rfl, by omega, by omega, fun D0 nD => ?_⟩
    have nDa : D0 ≠ a := fun z => tkB.ne (by rw [← z]; exact nD)
    have DA : D0 ∉ A0 := hA2.out nD
    refine lc_range (lo := 0) (fun i H3 => Go A0 HB H3 ∧ TankAt H3 a ∧ ∃ zs : List Int, H3 D0 = some (.lst (zs.map V.int)) ∧ zs.length = i ∧ ∀ z ∈ zs, 0 ≤ z ∧ z < 200)
      ⟨Go.new nD, tkB.keep (same_new nD), [], upd_same, rfl, by simp⟩ ?_ ?_
    · rintro i H3 hi ⟨g3, tk3, zs, eD, zl, hz⟩
      have hi8 : i < 8 := by omega
      refine ⟨rfl, ?_⟩
      refine ⟨_, rfl, _, rfl, _, _, rfl, rfl, .inl ⟨by omega, by omega⟩, _, rfl, _, rfl, _, _, rfl, rfl, a, _, rfl, tk3, by omega, by omega, fun r H4 r0 r1 go4 tk4 => ?_⟩
      refine ⟨_, _, rfl, rfl, .inl ⟨_, rfl, _, rfl, by show 3 ≤ sizeLine; decide, fun l3 nl3 => ?_⟩⟩
      have n3 : a ≠ l3 := fun z => tk4.ne (by rw [z]; exact nl3)
      refine ⟨a, l3, _, rfl, tk4.keep (same_new nl3), .inl (.inl upd_same), n3.symm, by decide, by decide, fun y3 H5 hy3 go5 tk5 => ?_⟩
      have eD5 : H5 D0 = some (.lst (zs.map V.int)) := by
        have h4 := (go4 [a] (by simp)).keep D0 _ (by simpa using nDa) eD
        exact (go5 [a] (by simp)).keep D0 _ (by simpa using nDa) (same_new nl3 _ _ h4)
      have gg : Go A0 HB H5 := (g3.trans (go4 A0 aA)).trans ((Go.new nl3).trans (go5 A0 aA))
      have fin : ∀ dv : Int, 0 < dv → dv ≤ 2 → ∃ zs' : List Int, (upd H5 D0 (.lst (zs.map V.int ++ [.int ((bt * (0 + ((i : Nat) : Int)) + r) / dv)]))) D0 = some (.lst (zs'.map V.int)) ∧ zs'.length = i + 1 ∧ ∀ z ∈ zs', 0 ≤ z ∧ z < 200 := by
        intro dv d0 d2
        refine ⟨zs ++ [(bt * (0 + ((i : Nat) : Int)) + r) / dv], by rw [upd_same]; simp, by simp [zl], ?_⟩
        intro z hm
        rcases List.mem_append.mp hm
              with hm | hm
        · exact hz z hm
        · rw [List.mem_singleton] at hm
          subst hm
          have p0 : 0 ≤ bt * (0 + ((i : Nat) : Int)) := Int.mul_nonneg (by omega) (by omega)
          have p1 : bt * (0 + ((i : Nat) : Int)) ≤ 12 * 7 := Int.mul_le_mul (by omega) (by omega) (by omega) (by omega)
          constructor
          · exact Int.ediv_nonneg (by omega) (by omega)
          · have := Int.ediv_le_self dv (show 0 ≤ bt * (0 + ((i : Nat) : Int)) + r by omega)
            omega
      have room : (zs.map V.int).length < sizeLine := by rw [List.length_map]; exact small1000 (by omega)
      have g6 : Go A0 HB (upd H5 D0 (.lst (zs.map V.int ++ [.int ((bt * (0 + ((i : Nat) : Int)) + r) / 1)]))) → True := fun _ => trivial
      have keepA : ∀ x, Go A0 HB (upd H5 D0 x) := fun x => ⟨fun b ob nb e => by
        rw [upd_ne (ne_of_none e nD)]
        exact gg.keep b ob nb e, fun hd b hb => by
        rw [upd_ne (fun z => DA (by rw [← z]; exact hb))]
        exact gg.held hd b hb⟩
      have tkA : ∀ x, TankAt (upd H5 D0 x) a := fun x => by
        obtain ⟨x1, y1, z1, e, rr⟩ := tk5.ex
        exact ⟨x1, y1, z1, by rw [upd_ne nDa.symm]; exact e, rr⟩
      simp only [List.mem_cons, List.not_mem_nil, or_false] at hy3
      have y3e : ∃ dv : Int, y3 = .int dv ∧ 0 < dv ∧ dv ≤ 2 := by
        rcases hy3 with z | z | z
        · exact ⟨1, z, by decide, by decide⟩
        · exact ⟨1, z, by decide, by decide⟩
        · exact ⟨2, z, by decide, by decide⟩
      obtain ⟨dv, rfl, d0, d2⟩ := y3e
      exact ⟨_, _, rfl, rfl, ⟨d0, by omega⟩, _, eD5, room, keepA _, tkA _, fin dv d0 d2⟩
    · rintro H3 ⟨g3, tk3, zs, eD, zl, hz⟩
      rw [Int.toNat_natCast] at zl
      -- numbers = [..]
      refine ⟨_, rfl, D0, zs, rfl, .inl (.inl eD), by omega, fun S0 n nS hn => ?_⟩
      refine ⟨S0, _, n, rfl, upd_same, by omega, fun ns p pw mem ln np => ?_⟩
      have gC : Go A0 HB (HCx w H3 S0 p zs n ns) := g3.trans ((Go.new nS).trans (Go.new np))
      have tkC : TankAt (HCx w H3 S0 p zs n ns) a := (tk3.keep (same_new nS)).keep (same_new np)
      have hSC : SqL K (HCx w H3 S0 p zs n ns) p (ns.map V.int) := .inl (.inl upd_same)
      have hAC : Hd A0 (HCx w H3 S0 p zs n ns) := gC.held hA2
      have hzn : ∀ z ∈ ns, 0 ≤ z ∧ z < 200 := fun z hm => hz z (of_decide_eq_true ((mem z).mp hm))
      have d0 : DH0 (ns.map fun z => lowQ z bt) := DH0.of bt1 bt12 pw hzn (by omega)
      refine ⟨p, rfl, ⟨_, hSC⟩, fun N0 nN => ?_⟩
      have nA : N0 ∉ A0 := hAC.out nN
      refine lc_list (K := K) (a := p) (xs := ns.map V.int) (fun i H4 => Same (HCx w H3 S0 p zs n ns) H4 ∧ Hd (N0 :: A0) H4 ∧ ∃ ws, H4 N0 = some (.lst ws) ∧ Iss K (N0 :: A0) H4 ws ((ns.take i).map fun z => encQ (lowQ z bt)))
        ⟨same_new nN, Hd.cons upd_same (hd_new hAC nN), [], upd_same, DAll.nil⟩ (fun i H4 _ ⟨s4, _⟩ => s4.seq hSC) ?_ ?_
      · rintro i y H4 hi ⟨s4, hA4, ws, eD, hws⟩
        obtain ⟨z, hz', rfl⟩ := some_map hi
        refine ⟨rfl, _, rfl, _, rfl, z, bt, rfl, by omega, by omega, fun q nq => ?_⟩
        have qN : N0 ≠ q := ne_of_none eD nq
        have qA : q ∉ N0 :: A0 := hA4.out nq
        have s5 : Same H4 (upd H4 q (.tup [.int (lowQ z bt).1, .int (lowQ z bt).2])) := same_new nq
        have eq5 : (upd H4 q (.tup [.int (lowQ z bt).1, .int (lowQ z bt).2])) q = some (.tup [.int (lowQ z bt).1, .int (lowQ z bt).2]) := upd_same
        generalize (upd H4 q (.tup [.int (lowQ z bt).1, .int (lowQ z bt).2])) = H5 at s5 eq5 ⊢
        refine ⟨ws, s5 _ _ eD, ?_, fun b ob e => ?_, ?_, ws ++ [.ref q], upd_same, ?_⟩
        · have e1 := hws.len
          rw [List.length_map, List.length_take] at e1
          exact small1000 (by omega)
        · rw [upd_ne (ne_of_none e nN)]
          exact s5 _ _ (s4 _ _ e)
        · exact (Go.chg (A := N0 :: A0) (by simp)).held ((Go.of s5).held hA4)
        · have g6 : Go (N0 :: A0) H5 (upd H5 N0 (.lst (ws ++ [.ref q]))) := Go.chg (by simp)
          rw [List.take_add_one, hz']
          simp only [List.map_append, Option.toList, List.map_cons, List.map_nil]
          exact iss_app (Iss.mono ((Go.of s5).trans g6) hws) (DAll.cons (Is.mono g6 (Is_Q qA eq5)) DAll.nil)
      · rintro H4 ⟨s4, hA4, ws, eD4, hws⟩
        rw [List.length_map, List.take_length] at hws
        have hw0 : Is K A0 H4 (.ref N0) (.list ((ns.map fun z => lowQ z bt).map encQ)) := by
          rw [List.map_map]
          exact is_own_lst eD4 nA hws
        generalize (ns.map fun z => lowQ z bt) = hd0 at d0 hw0
        have g4 : Go A0 H H4 := gB.trans (gC.trans (Go.of s4))
        have tk4 : TankAt H4 a := tkC.keep s4
        have hA4' : Hd A0 H4 := g4.held hA
        -- while
        refine ⟨fun n σ H' => ∃ u, σ = [some (.ref a), some v, some (.int ((sz : Nat) : Int)), some (.int bt), some (.ref D0), none, some u, none] ∧ n ≤ hd0.length ∧ Same H4 H' ∧ Is K A0 H' u (.list ((hd0.take n).map encQ)),
          ⟨hd0.length, .ref N0, rfl, Nat.le_refl _, Same.refl _, by rw [List.take_length]; exact hw0⟩, ?_⟩
        rintro n σ H5 ⟨u, rfl, hn, s5, hu5⟩
        have dn : DH0 (hd0.take n) := d0.take n
        have ln : (hd0.take n).length = n := by rw [List.length_take]; omega
        have g5 : Go A0 H H5 := g4.trans (Go.of s5)
        refine ⟨_, rfl, by show 0 ≤ sizeLine; decide, fun e0 ne0 => ?_⟩
        have s6 : Same H5 (upd H5 e0 (.lst [])) := same_new ne0
        have hE : D K (upd H5 e0 (.lst [])) (.ref e0) (.list []) := D.lst' (.inl (.inl upd_same)) DAll.nil
        generalize upd H5 e0 (.lst []) = H6 at s6 hE ⊢
        have hu6 : Is K A0 H6 u (.list ((hd0.take n).map encQ)) := Is.mono (Go.of s6) hu5
        have g6 : Go A0 H H6 := g5.trans (Go.of s6)
        have tk6 : TankAt H6 a := (tk4.keep s5).keep s6
        refine ⟨_, _, D.dp (Is.full hu6) (noDictL _), D.dp hE rfl, shapedQ _, shapedQ [], _, rfl, ?_⟩
        rw [eqv_nil]
        match n, hn, ln, dn, hu6 with
        | 0, hn, ln, dn, hu6 =>
          refine ⟨_, rfl, k u _ [] g6 tk6 (by simpa using hu6) ⟨by simp, by simp, by simp, by simp⟩⟩
        | n + 1, hn, ln, dn, hu6 =>
          obtain ⟨q, hq⟩ : ∃ q, (hd0.take (n + 1))[n]? = some q := ⟨_, List.getElem?_eq_getElem (by omega)⟩
          have hl : (hd0.take (n + 1)).getLast? = some q := by rw [List.getLast?_eq_getElem?, ln]; exact hq
          obtain ⟨q1, q2, q3, q4, q5⟩ := dn.oks q (List.mem_of_getElem? hq)
          have hne : (List.map encQ (hd0.take (n + 1))).isEmpty = false := by
            cases z : hd0.take (n + 1) with
            | nil => rw [z] at ln; cases ln
            | cons x l => rfl
          rw [hne]
          obtain ⟨l, vs, rfl, hS, hvs⟩ := is_lst hu6
          have lv : vs.length = n + 1 := by rw [iss_len hvs, List.length_map, ln]
          obtain ⟨x, hx, hxq⟩ := iss_get hvs (i := n) (d := encQ q) (by rw [List.getElem?_map, hq]; rfl)
          have hv6 : Is K A0 H6 v (encQ o) := Is.mono g6 hv
          have hS6 : SqL K H6 l vs := sqL_full hS
          have hd8 := dn.len
          refine ⟨_, rfl, _, rfl, .inl ⟨l, vs, -1, x, rfl, rfl, hS6, atI_neg (k := 1) (by decide) (by omega) (by rw [lv]; exact hx), ?_⟩⟩
          refine ⟨_, rfl, l, vs, rfl, .inl hS6, _, rfl, rd_int hv6 (by decide) rfl ?_⟩
          have oc := ok.c
          have od := ok.d
          have oa := ok.a
          have ob := ok.b
          refine ⟨_, _, rfl, rfl, .inl ⟨by omega, by omega⟩, _, rfl, rd_int hv6 (by decide) rfl ?_⟩
          refine ⟨_, _, rfl, rfl, _, rfl, rd_int hv6 (by decide) rfl ?_⟩
          refine ⟨by show 2 ≤ sizeLine; decide, fun p2 np2 => ?_⟩
          have hA6 : Hd A0 H6 := g6.held hA
          have pA : p2 ∉ A0 := hA6.out np2
          have s7 : Same H6 (upd H6 p2 (.tup [.int (((vs.length : Nat) : Int) * o.2 + o.1), .int o.2])) := same_new np2
          have hp7 : Is K A0 (upd H6 p2 (.tup [.int (((vs.length : Nat) : Int) * o.2 + o.1), .int o.2])) (.ref p2) (encQ (((vs.length : Nat) : Int) * o.2 + o.1, o.2)) := Is_Q pA upd_same
          generalize upd H6 p2 (.tup [.int (((vs.length : Nat) : Int) * o.2 + o.1), .int o.2]) = H7 at s7 hp7 ⊢
          have m0 : 0 ≤ ((vs.length : Nat) : Int) * o.2 := Int.mul_nonneg (by omega) (by omega)
          have m1 : ((vs.length : Nat) : Int) * o.2 ≤ 8 * 1000 := Int.mul_le_mul (by omega) (by omega) (by omega) (by omega)
          have big : (20000 : Nat) < 2 ^ 8000 := Nat.lt_of_lt_of_le (show (20000 : Nat) < 2 ^ 15 by decide) (Nat.pow_le_pow_right (by decide) (by decide))
          refine ⟨A0, x, .ref p2, q, (((vs.length : Nat) : Int) * o.2 + o.1, o.2), rfl, Is.mono (Go.of s7) hxq, hp7, ⟨Nat.lt_trans (by omega) big, Nat.lt_trans (by omega) big⟩, ⟨Nat.lt_trans (by show (((vs.length : Nat) : Int) * o.2 + o.1).natAbs < 20000; omega) big, Nat.lt_trans (by show o.2.natAbs < 20000; omega) big⟩, _, rfl, ?_⟩
          have eP : (((vs.length : Nat) : Int) * o.2 + o.1) = o.1 + ((hd0.take (n + 1)).length : Int) * o.2 := by rw [lv, ln, Int.add_comm]
          have g7 : Go A0 H H7 := g6.trans (Go.of s7)
          have hu7 : Is K A0 H7 (.ref l) (.list ((hd0.take (n + 1)).map encQ)) := Is.mono (Go.of s7) hu6
          by_cases hlt : q.1 * o.2 < (((vs.length : Nat) : Int) * o.2 + o.1) * q.2
          · rw [show decide ((q.1 * (((vs.length : Nat) : Int) * o.2 + o.1, o.2).2 < (((vs.length : Nat) : Int) * o.2 + o.1, o.2).1 * q.2)) = true from decide_eq_true hlt]
            refine ⟨_, rfl, k _ _ _ g7 (tk6.keep s7) hu7 ⟨dn.len, dn.oks, dn.inc, fun m hm => ?_⟩⟩
            rw [hl] at hm
            cases hm
            rw [eP] at hlt
            exact hlt
          · rw [show decide ((q.1 * (((vs.length : Nat) : Int) * o.2 + o.1, o.2).2 < (((vs.length : Nat) : Int) * o.2 + o.1, o.2).1 * q.2)) = false from decide_eq_false hlt]
            refine ⟨fun σ H' => ∃ u, σ = [some (.ref a), some v, some (.int ((sz : Nat) : Int)), some (.int bt), some (.ref D0), none, some u, none] ∧ Same H4 H' ∧ Is K A0 H' u (.list ((hd0.take n).map encQ)),
              fun σ H' ⟨u, e, s, i⟩ => ⟨n, by omega, u, e, by omega, s, i⟩, ?_⟩
            refine ⟨_, rfl, _, rfl, _, rfl, l, vs, rfl, s7.seq hS6, fun p3 np3 => ?_⟩
            have e3 : cutV vs none (some (-1)) = vs.take n := by
              rw [show (-1 : Int) = -((1 : Nat) : Int) from rfl, cut_neg vs (by decide) (by omega), lv]
              rfl
            rw [e3]
            refine ⟨.ref p3, rfl, ((s5.trans s6).trans s7).trans (same_new np3), ?_⟩
            have hA7 : Hd A0 H7 := g7.held hA
            have et : (hd0.take n).map encQ = ((hd0.take (n + 1)).map encQ).take n := by
              rw [← List.map_take, List.take_take, Nat.min_eq_left (by omega)]
            rw [et]
            exact is_new_lst hA7 np3 (iss_take (Iss.mono (Go.of s7) hvs))
end

/-! ### the law's rules, drawn: offset and head -/
def specD (o : Int × Int) (hd : List (Int × Int)) : PyData := .tuple [encQ o, .list (hd.map encQ)]
theorem p50 {i : Int} (h : i < 2000) : i < 10 ^ 50 := Int.lt_of_lt_of_le h (by decide)
theorem VR.drawn {o : Int × Int} {hd : List (Int × Int)} (ok : OkO o) (d : DH o hd) : VR (lowQ o.1 o.2) hd where
  ok := by
    have a := ok.a
    have b := ok.b
    have c := ok.c
    have e := ok.d
    have h1 := low_le1 (b := o.2) a
    have h2 := low_le2 (t := o.1) (Int.le_of_lt c)
    exact ⟨low_nn a, low_pos c, p50 (by omega), p50 (by omega)⟩
  low := low_low ok.a ok.c
  le1 := low_le ok.c ok.b
  len := d.len
  oks := fun q hq => by
    obtain ⟨a, b, c, e, f⟩ := d.oks q hq
    exact ⟨⟨a, c, p50 (by omega), p50 (by omega)⟩, f⟩
  inc := d.inc
  last := fun m hm => plain_low ok.c (d.last m hm)
section
variable {P : Program} {w : World} {K : PySem.W.Frag} {mg : Str → Option Value} {base : Heap} {c : Addr}
def sp__law_spec (K : PySem.W.Frag) (c : Addr) : Sp := fun vs H Q _ => ∃ (a : Addr) (A : List Addr), vs = [.ref a] ∧ TankAt H a ∧ a ∈ A ∧ Hd A H ∧
  ∀ u H' o hd, Go A H H' → TankAt H' a → Is K A H' u (specD o hd) → VR o hd → Q u H'
theorem cal__law_spec (B : Bl mg) (DD : OwnDef K mg "_law_spec" s__law_spec) (C__law_any : Cal P w K mg base 2 "_law_any" (sp__law_any K c) []) (C__law_low : Cal P w K mg base 1 "_law_low" (sp__law_low K c) []) (C__law_head : Cal P w K mg base 3 "_law_head" (sp__law_head K c) []) (C__law_tap : Cal P w K mg base 1 "_law_tap" (sp__law_tap K c) [])  : Cal P w K mg base 4 "_law_spec" (sp__law_spec K c) [] := by
  obtain ⟨f, fd, F, hm⟩ := DD.ex
  refine ⟨f, fd, ["_law_tank_here"], [], F.ok sc__law_spec (fun vs H Q E h => ?len) (fun cdv A outer s H vs Q E hr h => ?run), hm, F.kp, F.binds (fun _ _ _ _ _ _ us hl => match us, hl with | [_], _ => rfl), .nil⟩
  case len => first | (obtain ⟨_, rfl, _⟩ := h; rfl) | (obtain ⟨_, _, rfl, _⟩ := h; rfl) | (obtain ⟨_, _, _, rfl, _⟩ := h; rfl) | (obtain ⟨_, _, _, _, rfl, _⟩ := h; rfl) | (obtain ⟨_, _, _, _, _, rfl, _⟩ := h; rfl) | (obtain ⟨_, _, _, _, _, _, rfl, _⟩ := h; rfl) | (obtain ⟨_, _, _, _, _, _, _, rfl, _⟩ := h; rfl) | (obtain ⟨_, _, _, _, _, _, _, _, rfl, _⟩ := h; rfl) | (obtain ⟨_, _, _, _, _, _, _, _, _, rfl, _⟩ := h; rfl) | (obtain ⟨_, _, _, _, _, _, _, _, _, _, rfl, _⟩ := h; rfl) | (obtain ⟨_, _, _, _, _, _, _, _, _, _, _, rfl, _⟩ := h; rfl) | (obtain ⟨_, _, _, _, _, _, _, _, _, _, _, _, rfl, _⟩ := h; rfl) | (obtain ⟨_, _, _, _, _, _, _, _, _, _, _, _, _, rfl, _⟩ := h; rfl) | (obtain ⟨_, _, _, _, _, _, _, _, _, _, _, _, _, _, rfl, _⟩ := h; rfl)
  case run =>
    obtain ⟨a, A0, rfl, tk, aA, hA, k⟩ := h
    refine ⟨_, (pss_cons (ps_set (i := 1) sc__law_spec.nd rfl (Or.inl rfl) (pe_c C__law_any hr (by decide) (by rfl) (pa_cons (pv 0) (pa_cons (pe_lst (pa_cons (pe_tup (pa_cons pe_int (pa_cons pe_int pa_nil))) (pa_cons (pe_tup (pa_cons pe_int (pa_cons pe_int pa_nil))) (pa_cons (pe_tup (pa_cons pe_int (pa_cons pe_int pa_nil))) (pa_cons (pe_tup (pa_cons pe_int (pa_cons pe_int pa_nil))) (pa_cons (pe_tup (pa_cons (pe_c C__law_tap hr (by decide) (by rfl) (pa_cons (pv 0) (pa_cons pe_int pa_nil))) (pa_cons pe_int pa_nil))) (pa_cons (pe_tup (pa_cons (pe_c C__law_tap hr (by decide) (by rfl) (pa_cons (pv 0) (pa_cons pe_int pa_nil))) (pa_cons pe_int pa_nil))) pa_nil))))))) pa_nil))))
      (pss_one (ps_ret (pe_tup (pa_cons (pe_c C__law_low hr (by decide) (by rfl) (pa_cons (pe_ix ix_seq (pv 1) pe_int (fun _ _ => rfl)) (pa_cons (pe_ix ix_seq (pv 1) pe_int (fun _ _ => rfl)) pa_nil))) (pa_cons (pe_c C__law_head hr (by decide) (by rfl) (pa_cons (pv 0) (pa_cons (pv 1) pa_nil))) pa_nil)))))), ?_⟩
    refine ⟨_, rfl, by show 2 ≤ sizeLine; decide, fun p1 n1 => ?_⟩
    have h1 : Is K A0 (upd H p1 (.tup [.int 1, .int 1])) (.ref p1) (encQ (1, 1)) := Is_Q (hA.out n1) upd_same
    have g1 : Go A0 H (upd H p1 (.tup [.int 1, .int 1])) := Go.new n1
    have t1 : TankAt (upd H p1 (.tup [.int 1, .int 1])) a := tk.keep (same_new n1)
    generalize upd H p1 (.tup [.int 1, .int 1]) = H1 at h1 g1 t1 ⊢
    have hA1 := g1.held hA
    refine ⟨by show 2 ≤ sizeLine; decide, fun p2 n2 => ?_⟩
    have h2 : Is K A0 (upd H1 p2 (.tup [.int 1, .int 2])) (.ref p2) (encQ (1, 2)) := Is_Q (hA1.out n2) upd_same
    have g2 : Go A0 H1 (upd H1 p2 (.tup [.int 1, .int 2])) := Go.new n2
    have t2 : TankAt (upd H1 p2 (.tup [.int 1, .int 2])) a := t1.keep (same_new n2)
    generalize upd H1 p2 (.tup [.int 1, .int 2]) = H2 at h2 g2 t2 ⊢
    have hA2 := g2.held hA1
    refine ⟨by show 2 ≤ sizeLine; decide, fun p3 n3 => ?_⟩
    have h3 : Is K A0 (upd H2 p3 (.tup [.int 0, .int 1])) (.ref p3) (encQ (0, 1)) := Is_Q (hA2.out n3) upd_same
    have g3 : Go A0 H2 (upd H2 p3 (.tup [.int 0, .int 1])) := Go.new n3
    have t3 : TankAt (upd H2 p3 (.tup [.int 0, .int 1])) a := t2.keep (same_new n3)
    generalize upd H2 p3 (.tup [.int 0, .int 1]) = H3 at h3 g3 t3 ⊢
    have hA3 := g3.held hA2
    refine ⟨by show 2 ≤ sizeLine; decide, fun p4 n4 => ?_⟩
    have h4 : Is K A0 (upd H3 p4 (.tup [.int 1, .int 3])) (.ref p4) (encQ (1, 3)) := Is_Q (hA3.out n4) upd_same
    have g4 : Go A0 H3 (upd H3 p4 (.tup [.int 1, .int 3])) := Go.new n4
    have t4 : TankAt (upd H3 p4 (.tup [.int 1, .int 3])) a := t3.keep (same_new n4)
    generalize upd H3 p4 (.tup [.int 1, .int 3]) = H4 at h4 g4 t4 ⊢
    have hA4 := g4.held hA3
    refine ⟨_, rfl, a, _, rfl, t4, by decide, by decide, fun r H5 r0 r1 go5 t5 => ?_⟩
    have g5 : Go A0 H4 H5 := go5 A0 aA
    have hA5 := g5.held hA4
    refine ⟨by show 2 ≤ sizeLine; decide, fun p6 n6 => ?_⟩
    have h6 : Is K A0 (upd H5 p6 (.tup [.int r, .int 7])) (.ref p6) (encQ (r, 7)) := Is_Q (hA5.out n6) upd_same
    have g6 : Go A0 H5 (upd H5 p6 (.tup [.int r, .int 7])) := Go.new n6
    have t6 : TankAt (upd H5 p6 (.tup [.int r, .int 7])) a := t5.keep (same_new n6)
    generalize upd H5 p6 (.tup [.int r, .int 7]) = H6 at h6 g6 t6 ⊢
    have hA6 := g6.held hA5
    refine ⟨_, rfl, a, _, rfl, t6, by decide, by decide, fun y H7 y0 y1 go7 t7 => ?_⟩
    have g7 : Go A0 H6 H7 := go7 A0 aA
    have hA7 := g7.held hA6
    refine ⟨by show 2 ≤ sizeLine; decide, fun p8 n8 => ?_⟩
    have h8 : Is K A0 (upd H7 p8 (.tup [.int y, .int 100])) (.ref p8) (encQ (y, 100)) := Is_Q (hA7.out n8) upd_same
    have g8 : Go A0 H7 (upd H7 p8 (.tup [.int y, .int 100])) := Go.new n8
    have t8 : TankAt (upd H7 p8 (.tup [.int y, .int 100])) a := t7.keep (same_new n8)
    generalize upd H7 p8 (.tup [.int y, .int 100]) = H8 at h8 g8 t8 ⊢
    have hA8 := g8.held hA7
    refine ⟨by show 6 ≤ sizeLine; decide, fun l nl => ?_⟩
    have la : l ≠ a := fun z => t8.ne (by rw [← z]; exact nl)
    refine ⟨a, l, _, rfl, t8.keep (same_new nl), .inl (.inl upd_same), la, by show 0 < 6; decide, by show 6 < 1000; decide, fun v H9 hv go9 t9 => ?_⟩
    have g9 : Go A0 H8 H9 := (Go.new nl).trans (go9 A0 aA)
    have hA9 := g9.held hA8
    obtain ⟨o, ho, ok⟩ : ∃ o, Is K A0 H9 v (encQ o) ∧ OkO o := by
      have g79 := (g7.trans g8).trans g9
      have g59 := (g5.trans g6).trans g79
      simp only [List.mem_cons, List.not_mem_nil, or_false] at hv
      rcases hv with z | z | z | z | z | z
      · exact ⟨_, z ▸ Is.mono (((g2.trans g3).trans g4).trans g59) h1, by decide, by decide, by decide, by decide⟩
      · exact ⟨_, z ▸ Is.mono ((g3.trans g4).trans g59) h2, by decide, by decide, by decide, by decide⟩
      · exact ⟨_, z ▸ Is.mono (g4.trans g59) h3, by decide, by decide, by decide, by decide⟩
      · exact ⟨_, z ▸ Is.mono g59 h4, by decide, by decide, by decide, by decide⟩
      · exact ⟨_, z ▸ Is.mono g79 h6, r0, by show r ≤ 7; omega, by show (0 : Int) < 7; decide, by show (7 : Int) < 1000; decide⟩
      · exact ⟨_, z ▸ Is.mono g9 h8, y0, by show y ≤ 100; omega, by show (0 : Int) < 100; decide, by show (100 : Int) < 1000; decide⟩
    have gA : Go A0 H H9 := (((((((g1.trans g2).trans g3).trans g4).trans g5).trans g6).trans g7).trans g8).trans g9
    have oc := ok.c
    have od := ok.d
    refine ⟨_, rfl, rd_int ho (by decide) rfl ?_⟩
    refine ⟨_, rfl, rd_int ho (by decide) rfl ?_⟩
    refine ⟨o.1, o.2, rfl, oc, Nat.lt_of_lt_of_le (show o.2.natAbs < 2 ^ 10 by omega) (Nat.pow_le_pow_right (by decide) (by decide)), fun q nq => ?_⟩
    have hq : Is K A0 (upd H9 q (.tup [.int (lowQ o.1 o.2).1, .int (lowQ o.1 o.2).2])) (.ref q) (encQ (lowQ o.1 o.2)) := Is_Q (hA9.out nq) upd_same
    have gq : Go A0 H9 (upd H9 q (.tup [.int (lowQ o.1 o.2).1, .int (lowQ o.1 o.2).2])) := Go.new nq
    have tq : TankAt (upd H9 q (.tup [.int (lowQ o.1 o.2).1, .int (lowQ o.1 o.2).2])) a := t9.keep (same_new nq)
    generalize upd H9 q (.tup [.int (lowQ o.1 o.2).1, .int (lowQ o.1 o.2).2]) = HQ at hq gq tq ⊢
    refine ⟨_, rfl, _, rfl, a, v, A0, o, rfl, tq, aA, gq.held hA9, Is.mono gq ho, ok, fun u H10 hd g10 t10 hu dh => ?_⟩
    have hA10 := g10.held (gq.held hA9)
    refine ⟨by show 2 ≤ sizeLine; decide, fun t nt => ?_⟩
    exact k _ _ (lowQ o.1 o.2) hd (((gA.trans gq).trans g10).trans (Go.new nt)) (t10.keep (same_new nt)) (is_new_tup hA10 nt (DAll.cons (Is.mono g10 hq) (DAll.cons hu DAll.nil))) (VR.drawn ok dh)
def sp__law_mark (K : PySem.W.Frag) (c : Addr) : Sp := fun vs H Q _ => ∃ (v : V) (A : List Addr) (o : Int × Int) (hd : List (Int × Int)) (n : Int), vs = [v, .int n] ∧ Hd A H ∧ Is K A H v (specD o hd) ∧
  0 ≤ n ∧ n.natAbs < 2 ^ 8000 ∧ o.2.natAbs < 2 ^ 8000 ∧ ∀ u H', Same H H' → Is K A H' u (encQ (markQ o hd n)) → Q u H'
theorem cal__law_mark (B : Bl mg) (DD : OwnDef K mg "_law_mark" s__law_mark)   : Cal P w K mg base 1 "_law_mark" (sp__law_mark K c) [] := by
  obtain ⟨f, fd, F, hm⟩ := DD.ex
  refine ⟨f, fd, ["_law_spec_here", "_law_k"], [], F.ok sc__law_mark (fun vs H Q E h => ?len) (fun cdv A outer s H vs Q E hr h => ?run), hm, F.kp, F.binds (fun _ _ _ _ _ _ us hl => match us, hl with | [_, _], _ => rfl), .nil⟩
  case len => first | (obtain ⟨_, rfl, _⟩ := h; rfl) | (obtain ⟨_, _, rfl, _⟩ := h; rfl) | (obtain ⟨_, _, _, rfl, _⟩ := h; rfl) | (obtain ⟨_, _, _, _, rfl, _⟩ := h; rfl) | (obtain ⟨_, _, _, _, _, rfl, _⟩ := h; rfl) | (obtain ⟨_, _, _, _, _, _, rfl, _⟩ := h; rfl) | (obtain ⟨_, _, _, _, _, _, _, rfl, _⟩ := h; rfl) | (obtain ⟨_, _, _, _, _, _, _, _, rfl, _⟩ := h; rfl) | (obtain ⟨_, _, _, _, _, _, _, _, _, rfl, _⟩ := h; rfl) | (obtain ⟨_, _, _, _, _, _, _, _, _, _, rfl, _⟩ := h; rfl) | (obtain ⟨_, _, _, _, _, _, _, _, _, _, _, rfl, _⟩ := h; rfl) | (obtain ⟨_, _, _, _, _, _, _, _, _, _, _, _, rfl, _⟩ := h; rfl) | (obtain ⟨_, _, _, _, _, _, _, _, _, _, _, _, _, rfl, _⟩ := h; rfl) | (obtain ⟨_, _, _, _, _, _, _, _, _, _, _, _, _, _, rfl, _⟩ := h; rfl)
  case run =>
    obtain ⟨v, A0, o, hd, n, rfl, hA, hv, n0, nz, oz, k⟩ := h
    refine ⟨_, (pss_cons (ps_if (pt_cmpR op_lt (pv 1) (pe_callB call_len_seq (by rfl) B.len (by decide +kernel) (pa_cons (pe_ix ix_seq (pv 0) pe_int (fun _ _ => rfl)) pa_nil)) (nomark _)) (pss_one (ps_ret (pe_ix ix_seq (pe_ix ix_seq (pv 0) pe_int (fun _ _ => rfl)) (pv 1) (fun _ _ => rfl)))) pss_nil)
      (pss_one (ps_ret (pe_tup (pa_cons (pe_op op_add (pe_ix ix_seq (pe_ix ix_seq (pv 0) pe_int (fun _ _ => rfl)) pe_int (fun _ _ => rfl)) (pe_op op_mulW (pv 1) (pe_ix ix_seq (pe_ix ix_seq (pv 0) pe_int (fun _ _ => rfl)) pe_int (fun _ _ => rfl)))) (pa_cons (pe_ix ix_seq (pe_ix ix_seq (pv 0) pe_int (fun _ _ => rfl)) pe_int (fun _ _ => rfl)) pa_nil)))))), ?_⟩
    refine ⟨_, rfl, _, rfl, rd_tup hv (by decide) rfl fun u1 hu1 => ?_⟩
    obtain ⟨pl, ys, rfl, sq, all⟩ := is_lst hu1
    have yl : ys.length = hd.length := by rw [all.len, List.length_map]
    refine ⟨pl, ys, rfl, .inl (sqL_full sq), ?_⟩
    refine ⟨_, _, rfl, rfl, _, rfl, ite2 (fun e => ?_) (fun e => ?_)⟩
    · have e1 : n < ((ys.length : Nat) : Int) := of_decide_eq_true e
      rw [yl] at e1
      have hi : n.toNat < hd.length := by omega
      have z : markQ o hd n = hd[n.toNat] := by
        unfold markQ
        rw [if_pos e1]
        simp [List.getD, hi]
      rw [z] at k
      refine ⟨_, rfl, rd_tup hv (by decide) rfl fun u2 hu2 => ?_⟩
      refine ⟨_, rfl, ?_⟩
      exact rd_lst hu2 n0 (d := encQ hd[n.toNat]) (by rw [List.getElem?_map, List.getElem?_eq_getElem hi]; rfl) fun u hu => k u H (Same.refl H) hu
    · have e1 : ¬ n < ((ys.length : Nat) : Int) := fun z => e (decide_eq_true z)
      rw [yl] at e1
      have z : markQ o hd n = plainQ o n := by
        unfold markQ
        rw [if_neg e1]
      rw [z] at k
      refine ⟨_, rfl, rd_tup hv (by decide) rfl fun u2 hu2 => ?_⟩
      refine rd_int hu2 (by decide) rfl ?_
      refine ⟨_, rfl, _, rfl, rd_tup hv (by decide) rfl fun u3 hu3 => ?_⟩
      refine rd_int hu3 (by decide) rfl ?_
      refine ⟨_, _, rfl, rfl, wide_mul nz oz (by decide) (by decide) (by decide), _, _, rfl, rfl, ?_⟩
      refine ⟨_, rfl, rd_tup hv (by decide) rfl fun u4 hu4 => ?_⟩
      refine rd_int hu4 (by decide) rfl ?_
      exact ⟨by show 2 ≤ sizeLine; decide, fun p np => k _ _ (same_new np) (Is_Q (hA.out np) upd_same)⟩
end
section
variable {P : Program} {w : World} {K : PySem.W.Frag} {mg : Str → Option Value} {base : Heap} {c : Addr}
def sp__law_text (K : PySem.W.Frag) (c : Addr) : Sp := fun vs H Q _ => ∃ (v : V) (A : List Addr) (o : Int × Int) (hd : List (Int × Int)), vs = [v] ∧ Hd A H ∧ Is K A H v (specD o hd) ∧ VR o hd ∧
  ∀ H', Same H H' → Q (.str (SX.S (ruleL o hd))) H'
theorem cal__law_text (B : Bl mg) (DD : OwnDef K mg "_law_text" s__law_text) (C__law_written : Cal P w K mg base 1 "_law_written" (sp__law_written K c) [])  : Cal P w K mg base 2 "_law_text" (sp__law_text K c) [] := by
  obtain ⟨f, fd, F, hm⟩ := DD.ex
  refine ⟨f, fd, ["_law_spec_here"], [], F.ok sc__law_text (fun vs H Q E h => ?len) (fun cdv A outer s H vs Q E hr h => ?run), hm, F.kp, F.binds (fun _ _ _ _ _ _ us hl => match us, hl with | [_], _ => rfl), .nil⟩
  case len => first | (obtain ⟨_, rfl, _⟩ := h; rfl) | (obtain ⟨_, _, rfl, _⟩ := h; rfl) | (obtain ⟨_, _, _, rfl, _⟩ := h; rfl) | (obtain ⟨_, _, _, _, rfl, _⟩ := h; rfl) | (obtain ⟨_, _, _, _, _, rfl, _⟩ := h; rfl) | (obtain ⟨_, _, _, _, _, _, rfl, _⟩ := h; rfl) | (obtain ⟨_, _, _, _, _, _, _, rfl, _⟩ := h; rfl) | (obtain ⟨_, _, _, _, _, _, _, _, rfl, _⟩ := h; rfl) | (obtain ⟨_, _, _, _, _, _, _, _, _, rfl, _⟩ := h; rfl) | (obtain ⟨_, _, _, _, _, _, _, _, _, _, rfl, _⟩ := h; rfl) | (obtain ⟨_, _, _, _, _, _, _, _, _, _, _, rfl, _⟩ := h; rfl) | (obtain ⟨_, _, _, _, _, _, _, _, _, _, _, _, rfl, _⟩ := h; rfl) | (obtain ⟨_, _, _, _, _, _, _, _, _, _, _, _, _, rfl, _⟩ := h; rfl) | (obtain ⟨_, _, _, _, _, _, _, _, _, _, _, _, _, _, rfl, _⟩ := h; rfl)
  case run =>
    obtain ⟨v, A0, o, hd, rfl, hA, hv, vr, k⟩ := h
    refine ⟨_, (pss_one (ps_ret (pe_join pe_str (pe_op op_cat (pe_lc (own := [("_law_mark_here", 1)]) (by rfl) sc__law_text.nd (pi_list (pe_ix ix_seq (pv 0) pe_int (fun _ _ => rfl))) (blkOk_by (own := [("_law_mark_here", 1)]) (N := ["_law_spec_here", "_law_mark_here"]) (sc := defScope s__law_text) (by decide +kernel)) (fun _ _ _ _ _ => (pg_name (i := 1) sc__law_text.nd rfl (Or.inl rfl))) (fun _ _ _ _ _ => pts_nil) (fun _ _ _ _ _ => (pe_c C__law_written hr (by decide) (by rfl) (pa_cons (pv 1) pa_nil)))) (pe_lst (pa_cons pe_str (pa_cons (pe_c C__law_written hr (by decide) (by rfl) (pa_cons (pe_ix ix_seq (pv 0) pe_int (fun _ _ => rfl)) pa_nil)) pa_nil))))))), ?_⟩
    have sl : sizeLine = 16777216 := sizeLine_eq
    have v8 := vr.len
    refine ⟨⟨_, rfl⟩, _, rfl, rd_tup hv (by decide) rfl fun u hu => ?_⟩
    obtain ⟨l, vs, rfl, sq, all⟩ := is_lst hu
    have vl : vs.length = hd.length := by rw [all.len, List.length_map]
    refine ⟨l, rfl, ⟨_, sqL_full sq⟩, fun D0 nD => ?_⟩
    refine lc_list (K := K) (a := l) (xs := vs) (fun i H4 => Same H H4 ∧ H4 D0 = some (.lst ((hd.take i).map fun q => V.str (SX.S (qL q))))) ⟨same_new nD, upd_same⟩ (fun i H4 _ ⟨s4, _⟩ => s4.seq (sqL_full sq)) ?_ ?_
    · rintro i y H4 hi ⟨s4, eD⟩
      obtain ⟨d, hd', hy⟩ := iss_get' all hi
      obtain ⟨q, hq, rfl⟩ := some_map hd'
      have hm : q ∈ hd := List.mem_of_getElem? hq
      refine ⟨rfl, _, rfl, y, A0, q, rfl, Is.mono (Go.of s4) hy, (vr.oks q hm).1, _, eD, ?_, fun b ob e => ?_, ?_⟩
      · rw [List.length_map,
            List.length_take]
        exact small1000 (by omega)
      · rw [upd_ne (ne_of_none e nD)]
        exact s4 _ _ e
      · rw [upd_same, List.take_add_one, hq, List.map_append]
        rfl
    · rintro H4 ⟨s4, eD⟩
      rw [vl, List.take_length] at eD
      refine ⟨_, rfl, rd_tup (Is.mono (Go.of s4) hv) (by decide) rfl fun u2 hu2 => ?_⟩
      refine ⟨u2, A0, o, rfl, hu2, vr.ok, by show 2 ≤ sizeLine; decide, fun p np => ?_⟩
      refine ⟨D0, p, _, _, rfl, rfl, (same_new np) _ _ eD, upd_same, ?_, fun t nt => ?_⟩
      · rw [List.length_map, sl]
        show hd.length + 2 ≤ _
        omega
      have c124 : ("|" : Str) = SX.S [124] := by decide +kernel
      have c32 : (" " : Str) = SX.S [32] := by decide +kernel
      have el : (hd.map fun q => V.str (SX.S (qL q))) ++ [V.str ("|" : Str), V.str (SX.S (qL o))] = ((ruleParts o hd).map SX.S).map V.str := by
        unfold ruleParts
        rw [c124]
        simp only [List.map_append, List.map_map, List.map_cons, List.map_nil]
        rfl
      refine ⟨_, t, (ruleParts o hd).map SX.S, rfl, rfl, .inl (.inl (.inl ?_)), ?_, ?_⟩
      · rw [← el]
        exact upd_same
      · have h2 : ∀ p ∈ ruleParts o hd, p.length ≤ 101 := by
          intro p hp
          unfold ruleParts at hp
          rcases List.mem_append.mp hp
                with hp | hp
          · obtain ⟨q, hq, rfl⟩ := List.mem_map.mp hp
            exact qL_len (vr.oks q hq).1
          · rcases List.mem_cons.mp hp
                with rfl | hp
            · decide
            · rw [List.mem_singleton] at hp
              subst hp
              exact qL_len vr.ok
        have h3 := sum_le h2
        have h4 : (ruleParts o hd).length = hd.length + 2 := by unfold ruleParts; simp
        have e1 : (((ruleParts o hd).map SX.S).map (fun x => x.length)).sum = ((ruleParts o hd).map (·.length)).sum := by
          rw [List.map_map]
          exact congrArg List.sum (List.map_congr_left fun q _ => SX.S_len q)
        have e2 : (" " : Str).length = 1 := by rw [c32, SX.S_len] <;> rfl
        rw [e1, e2, List.length_map, h4]
        rw [h4] at h3
        omega
      · have e : Txt.join (" " : Str) ((ruleParts o hd).map SX.S) = SX.S (ruleL o hd) := by
          rw [c32, SX.join_S]
          rfl
        show Q (V.str (Txt.join (" " : Str) ((ruleParts o hd).map SX.S))) _
        rw [e]
        exact k _ (((s4.trans (same_new np)).trans (same_new nt)))
def sp__law_rule (K : PySem.W.Frag) (c : Addr) : Sp := fun vs H Q _ => ∃ (v : V) (A : List Addr) (o : Int × Int) (hd : List (Int × Int)), vs = [v] ∧ Hd A H ∧ Is K A H v (specD o hd) ∧ VR o hd ∧
  ∀ r H', Same H H' → r ∉ A → RuleAt K c A H' r o hd → Q (.ref r) H'
theorem cal__law_rule (B : Bl mg) (DD : OwnDef K mg "_law_rule" s__law_rule) (C__law_text : Cal P w K mg base 2 "_law_text" (sp__law_text K c) []) (S_read : Sta P w K mg base 9 "Rule" "read" (sp_Rule_read K c)) : Cal P w K mg base 10 "_law_rule" (sp__law_rule K c) [] := by
  obtain ⟨f, fd, F, hm⟩ := DD.ex
  refine ⟨f, fd, ["_law_spec_here"], [], F.ok sc__law_rule (fun vs H Q E h => ?len) (fun cdv A outer s H vs Q E hr h => ?run), hm, F.kp, F.binds (fun _ _ _ _ _ _ us hl => match us, hl with | [_], _ => rfl), .nil⟩
  case len => first | (obtain ⟨_, rfl, _⟩ := h; rfl) | (obtain ⟨_, _, rfl, _⟩ := h; rfl) | (obtain ⟨_, _, _, rfl, _⟩ := h; rfl) | (obtain ⟨_, _, _, _, rfl, _⟩ := h; rfl) | (obtain ⟨_, _, _, _, _, rfl, _⟩ := h; rfl) | (obtain ⟨_, _, _, _, _, _, rfl, _⟩ := h; rfl) | (obtain ⟨_, _, _, _, _, _, _, rfl, _⟩ := h; rfl) | (obtain ⟨_, _, _, _, _, _, _, _, rfl, _⟩ := h; rfl) | (obtain ⟨_, _, _, _, _, _, _, _, _, rfl, _⟩ := h; rfl) | (obtain ⟨_, _, _, _, _, _, _, _, _, _, rfl, _⟩ := h; rfl) | (obtain ⟨_, _, _, _, _, _, _, _, _, _, _, rfl, _⟩ := h; rfl) | (obtain ⟨_, _, _, _, _, _, _, _, _, _, _, _, rfl, _⟩ := h; rfl) | (obtain ⟨_, _, _, _, _, _, _, _, _, _, _, _, _, rfl, _⟩ := h; rfl) | (obtain ⟨_, _, _, _, _, _, _, _, _, _, _, _, _, _, rfl, _⟩ := h; rfl)
  case run =>
    obtain ⟨v, A0, o, hd, rfl, hA, hv, vr, k⟩ := h
    refine ⟨_, (pss_one (ps_ret (pe_sta S_read hr (by decide) (by rfl) (pa_cons (pe_c C__law_text hr (by decide) (by rfl) (pa_cons (pv 0) pa_nil)) pa_nil)))), ?_⟩
    refine ⟨_, rfl, v, A0, o, hd, rfl, hA, hv, vr, fun H1 s1 => ?_⟩
    exact ⟨o, hd, A0, rfl, vr, (Go.of s1).held hA, fun r H2 s2 hr hR => k r H2 (s1.trans s2) hr hR⟩
end

end LW

set_option Elab.async false
set_option linter.all false
set_option maxRecDepth 100000
set_option maxHeartbeats 4000100
set_option exponentiation.threshold 9000
namespace LW
open L2 PySem.Spec PyProof.Rows PySem
abbrev s_is_positive : Stmt := topS 16
theorem sc_is_positive : FnScope ["value"] ["value"] (defScope s_is_positive) := ⟨rfl, rfl, rfl, by decide +kernel, rfl, by decide +kernel, by decide +kernel⟩
abbrev s_as_inverse : Stmt := topS 22
theorem sc_as_inverse : FnScope ["number", "top", "bottom"] ["number"] (defScope s_as_inverse) := ⟨rfl, rfl, rfl, by decide +kernel, rfl, by decide +kernel, by decide +kernel⟩
abbrev s_in_integers : Stmt := topS 21
theorem sc_in_integers : FnScope ["numbers", "pairs", "number", "common", "top", "bottom"] ["numbers"] (defScope s_in_integers) := ⟨rfl, rfl, rfl, by decide +kernel, rfl, by decide +kernel, by decide +kernel⟩
abbrev s_check_rule : Stmt := topS 38
theorem sc_check_rule : FnScope ["value"] ["value"] (defScope s_check_rule) := ⟨rfl, rfl, rfl, by decide +kernel, rfl, by decide +kernel, by decide +kernel⟩
abbrev s_check_claims : Stmt := topS 39
theorem sc_check_claims : FnScope ["value", "index", "claim"] ["value"] (defScope s_check_claims) := ⟨rfl, rfl, rfl, by decide +kernel, rfl, by decide +kernel, by decide +kernel⟩
abbrev s_check_division : Stmt := topS 40
theorem sc_check_division : FnScope ["value", "claimants", "index", "count"] ["value", "claimants"] (defScope s_check_division) := ⟨rfl, rfl, rfl, by decide +kernel, rfl, by decide +kernel, by decide +kernel⟩
abbrev s_delays_of : Stmt := topS 42
theorem sc_delays_of : FnScope ["claims", "claim"] ["claims"] (defScope s_delays_of) := ⟨rfl, rfl, rfl, by decide +kernel, rfl, by decide +kernel, by decide +kernel⟩
abbrev s_next_dues : Stmt := topS 43
theorem sc_next_dues : FnScope ["rule", "delays", "counts", "delay", "count"] ["rule", "delays", "counts"] (defScope s_next_dues) := ⟨rfl, rfl, rfl, by decide +kernel, rfl, by decide +kernel, by decide +kernel⟩
abbrev s_last_dues : Stmt := topS 44
theorem sc_last_dues : FnScope ["rule", "delays", "counts", "delay", "count"] ["rule", "delays", "counts"] (defScope s_last_dues) := ⟨rfl, rfl, rfl, by decide +kernel, rfl, by decide +kernel, by decide +kernel⟩
abbrev s_is_fair : Stmt := topS 46
theorem sc_is_fair : FnScope ["rule", "claims", "division", "delays"] ["rule", "claims", "division"] (defScope s_is_fair) := ⟨rfl, rfl, rfl, by decide +kernel, rfl, by decide +kernel, by decide +kernel⟩
abbrev s_Rule_whole_mark : Stmt := inClass (topS 36) 3
theorem sc_Rule_whole_mark : FnScope ["self", "number"] ["self", "number"] (defScope s_Rule_whole_mark) := ⟨rfl, rfl, rfl, by decide +kernel, rfl, by decide +kernel, by decide +kernel⟩
/-- a rule in plain data -/
def ruD (o : Int × Int) (hd : List (Int × Int)) : Dt := .tup [.tup [.int o.1, .int o.2], .lst (hd.map fun q => .tup [.int q.1, .int q.2])]
/-- what is fixed: the rules, the tanks -/
def suR (K : PySem.W.Frag) (mg : Str → Option Value) (c : Addr) : Su where
  K := K
  mg := mg
  ob := fun k d H v => k = 0 ∧ ∃ r o hd, v = .ref r ∧ d = ruD o hd ∧ VR o hd ∧ RuleAt K c [] H r o hd
  obm := fun s h => by
    obtain ⟨e, r, o, hd, e1, e2, vr, R⟩ := h
    exact ⟨e, r, o, hd, e1, e2, vr, R.same s⟩
  obr := fun h => by
    obtain ⟨e, r, o, hd, e1, _⟩ := h
    exact ⟨r, e1⟩
  md := fun k o => ∃ x y z : Int, o = .lst [.int x, .int y, .int z] ∧ 0 ≤ x ∧ 0 ≤ y ∧ y < 1610612741 ∧ 0 ≤ z
/-! ### the program: marks as integers -/
section
variable {P : Program} {w : World} {K : PySem.W.Frag} {mg : Str → Option Value} {base : Heap} {c : Addr}
/-- the mark with a number, times the unit -/
def wholeQ (o : Int × Int) (hd : List (Int × Int)) (n : Int) : Int := timesQ (unitQ o hd) (markQ o hd n)
theorem VR.bots {o : Int × Int} {hd : List (Int × Int)} (r : VR o hd) : ∀ q ∈ o :: hd, 0 < q.2 ∧ q.2.natAbs < 2 ^ 200 := fun q hq => by
  rcases List.mem_cons.mp hq with e | hq
  · subst e
    have := r.ok.b; have := r.ok.b2
    constructor <;> omega
  · have := (r.oks q hq).1.b; have := (r.oks q hq).1.b2
    constructor <;> omega
theorem VR.unit {o : Int × Int} {hd : List (Int × Int)} (r : VR o hd) : 0 < unitQ o hd ∧ (unitQ o hd).natAbs < 2 ^ 3201 ∧ ∀ q ∈ o :: hd, q.2 ∣ unitQ o hd := by
  refine ⟨?_, ?_, fun q hq => ?_⟩
  · have := lcmN_pos _ (o :: hd) rfl fun q hq => (r.bots q hq).1
    show (0 : Int) < ((lcmN (o :: hd) : Nat) : Int)
    omega
  · show (((lcmN (o :: hd) : Nat) : Int)).natAbs < _
    rw [Int.natAbs_natCast]
    refine lcmN_8000 ?_ fun q hq => (r.bots q hq).2
    have := r.len
    rw [List.length_cons]
    omega
  · have z := lcmN_dvd _ (o :: hd) rfl q hq
    exact Int.natAbs_dvd_natAbs.mp (show q.2.natAbs ∣ (((lcmN (o :: hd) : Nat) : Int)).natAbs by rw [Int.natAbs_natCast]; exact z)
theorem wholeQ_plain {o : Int × Int} {hd : List (Int × Int)} (r : VR o hd) (n : Int) : timesQ (unitQ o hd) (plainQ o n) = timesQ (unitQ o hd) o + n * unitQ o hd := by
  obtain ⟨x, hx⟩ := r.unit.2.2 o List.mem_cons_self
  have b := (r.bots o List.mem_cons_self).1
  show (o.1 + n * o.2) * (unitQ o hd / o.2) = o.1 * (unitQ o hd / o.2) + n * unitQ o hd
  rw [hx, Int.mul_ediv_cancel_left _ (by omega), Int.add_mul, Int.mul_assoc]
def sp_Rule_whole_mark (K : PySem.W.Frag) (c : Addr) : Sp := fun vs H Q _ => ∃ (r : Addr) (A : List Addr) (o : Int × Int) (hd : List (Int × Int)) (n : Int), vs = [.ref r, .int n] ∧ RuleAt K c A H r o hd ∧ VR o hd ∧ 0 ≤ n ∧ n.natAbs < 2 ^ 8000 ∧
  Q (.int (wholeQ o hd n)) H
theorem met_Rule_whole_mark {f : Addr} {fd : FuncData} (B : Bl mg) (T : Tx K mg c) (F : Fun K "whole_mark" "Rule.whole_mark" s_Rule_whole_mark f fd) (me : Meth K c "whole_mark" f)   : Met P w K mg base 1 c "whole_mark" (sp_Rule_whole_mark K c) ∧ FnOk P w K mg base CX0 1 f fd ["self", "number"] (sp_Rule_whole_mark K c) := by
  refine (fun Ok => ⟨⟨f, fd, ["self", "number"], T.cl, me, Ok, F.binds (fun _ _ _ _ _ _ us hl => match us, hl with | [_, _], _ => rfl)⟩, Ok⟩) (F.ok sc_Rule_whole_mark (fun vs H Q E h => ?len) (fun cdv A outer s H vs Q E hr h => ?run))
  case len => first | (obtain ⟨_, rfl, _⟩ := h; rfl) | (obtain ⟨_, _, rfl, _⟩ := h; rfl) | (obtain ⟨_, _, _, rfl, _⟩ := h; rfl) | (obtain ⟨_, _, _, _, rfl, _⟩ := h; rfl) | (obtain ⟨_, _, _, _, _, rfl, _⟩ := h; rfl) | (obtain ⟨_, _, _, _, _, _, rfl, _⟩ := h; rfl) | (obtain ⟨_, _, _, _, _, _, _, rfl, _⟩ := h; rfl) | (obtain ⟨_, _, _, _, _, _, _, _, rfl, _⟩ := h; rfl) | (obtain ⟨_, _, _, _, _, _, _, _, _, rfl, _⟩ := h; rfl) | (obtain ⟨_, _, _, _, _, _, _, _, _, _, rfl, _⟩ := h; rfl) | (obtain ⟨_, _, _, _, _, _, _, _, _, _, _, rfl, _⟩ := h; rfl) | (obtain ⟨_, _, _, _, _, _, _, _, _, _, _, _, rfl, _⟩ := h; rfl) | (obtain ⟨_, _, _, _, _, _, _, _, _, _, _, _, _, rfl, _⟩ := h; rfl) | (obtain ⟨_, _, _, _, _, _, _, _, _, _, _, _, _, _, rfl, _⟩ := h; rfl)
  case run =>
    obtain ⟨r, A0, o, hd, n, rfl, R, vr, n0, nz, k⟩ := h
    refine ⟨_, (pss_cons (ps_if (pt_cmpR op_lt (pv 1) (pe_callB call_len_seq (by rfl) B.len (by decide +kernel) (pa_cons (pe_fld (pv 0) rfl) pa_nil)) (nomark _)) (pss_one (ps_ret (pe_ix ix_seq (pe_fld (pv 0) rfl) (pv 1) (fun _ _ => rfl)))) pss_nil)
      (pss_one (ps_ret (pe_op op_add (pe_fld (pv 0) rfl) (pe_op op_mulW (pv 1) (pe_fld (pv 0) rfl)))))), ?_⟩
    obtain ⟨dx, v0, v1, v2, v3, er, h0, h1, h2, h3⟩ := R.ex
    obtain ⟨a, ws, rfl, sq, all⟩ := is_lst h3
    have wl : ws.length = hd.length := by rw [all.len, List.length_map]
    refine ⟨_, rfl, _, rfl, r, c, dx, _, _, rfl, er, T.cl, T.nW, lkW _ _ _ _ _, a, ws, rfl, .inl (sqL_full sq), _, _, rfl, rfl, _, rfl, ite2 (fun e => ?_) (fun e => ?_)⟩
    · have e1 : n < ((ws.length : Nat) : Int) := of_decide_eq_true e
      have hi : n.toNat < hd.length := by omega
      have z : markQ o hd n = hd[n.toNat] := by
        unfold markQ
        rw [if_pos (by omega)]
        simp [List.getD, hi]
      refine ⟨_, rfl, r, c, dx, _, _, rfl, er, T.cl, T.nW, lkW _ _ _ _ _, _, rfl, ?_⟩
      refine rd_lst h3 n0 (d := .int (wholeQ o hd n)) ?_ fun u hu => ?_
      · rw [List.getElem?_map, List.getElem?_eq_getElem hi]
        unfold wholeQ
        rw [z]
        rfl
      · rw [is_int hu]
        exact k
    · have e1 : ¬ n < ((ws.length : Nat) : Int) := fun z => e (decide_eq_true z)
      have z : markQ o hd n = plainQ o n := by
        unfold markQ
        rw [if_neg (by omega)]
      refine ⟨_, rfl, r, c, dx, _, _, rfl, er, T.cl, T.nX, lkX _ _ _ _ _ _, _, rfl, _, rfl, r, c, dx, _, _, rfl, er, T.cl, T.nU, lkU _ _ _ _, ?_⟩
      refine ⟨_, _, rfl, rfl, wide_mul nz vr.unit.2.1 (by decide) (by decide) (by decide), _, _, rfl, rfl, ?_⟩
      show Q (.int (timesQ (unitQ o hd) o + n * unitQ o hd)) H
      rw [← wholeQ_plain vr n, ← z]
      exact k
end

/-! ### numbers, in plain data -/
def uIsInt : Dt → Bool
  | .int _ => true
  | _ => false
def prD (q : Int × Int) : Dt := .tup [.int q.1, .int q.2]
/-- the pair of a number -/
def numD : Dt → Option (Int × Int)
  | .int i => some (i, 1)
  | .tup [.int a, .int b] => some (a, b)
  | _ => none
/-- what is_number says -/
def uIsNum (d : Dt) : Bool := match numD d with
  | some q => decide (1 ≤ q.2)
  | none => false
/-- the kinds of plain data are known, up to the items of a tuple -/
def KnD : Dt → Prop
  | .tup l => ∀ d ∈ l, (tyD d).isSome = true
  | d => (tyD d).isSome = true
theorem KnD.ty {d : Dt} (h : KnD d) : (tyD d).isSome = true := by
  cases d <;> first | rfl | exact h
def uIsBl : Dt → Bool
  | .bl _ => true
  | _ => false
def uIsTup : Dt → Bool
  | .tup _ => true
  | _ => false
theorem ukI {d : Dt} (h : (tyD d).isSome = true) : ∃ t, tyD d = some t ∧ kitB t "int" = some (uIsInt d || uIsBl d) := by
  cases d with
  | non => exact ⟨_, rfl, (show kitB "NoneType" "int" = some false by decide +kernel)⟩
  | bl b => exact ⟨_, rfl, (show kitB "bool" "int" = some true by decide +kernel)⟩
  | int b => exact ⟨_, rfl, (show kitB "int" "int" = some true by decide +kernel)⟩
  | str b => exact ⟨_, rfl, (show kitB "str" "int" = some false by decide +kernel)⟩
  | lst b => exact ⟨_, rfl, (show kitB "list" "int" = some false by decide +kernel)⟩
  | tup b => exact ⟨_, rfl, (show kitB "tuple" "int" = some false by decide +kernel)⟩
  | dct => exact ⟨_, rfl, (show kitB "dict" "int" = some false by decide +kernel)⟩
  | ty n => cases h
  | tnk n => cases h
  | obj n d => cases h
  | fn n => cases h
theorem ukB {d : Dt} (h : (tyD d).isSome = true) : ∃ t, tyD d = some t ∧ kitB t "bool" = some (uIsBl d) := by
  cases d with
  | non => exact ⟨_, rfl, (show kitB "NoneType" "bool" = some false by decide +kernel)⟩
  | bl b => exact ⟨_, rfl, (show kitB "bool" "bool" = some true by decide +kernel)⟩
  | int b => exact ⟨_, rfl, (show kitB "int" "bool" = some false by decide +kernel)⟩
  | str b => exact ⟨_, rfl, (show kitB "str" "bool" = some false by decide +kernel)⟩
  | lst b => exact ⟨_, rfl, (show kitB "list" "bool" = some false by decide +kernel)⟩
  | tup b => exact ⟨_, rfl, (show kitB "tuple" "bool" = some false by decide +kernel)⟩
  | dct => exact ⟨_, rfl, (show kitB "dict" "bool" = some false by decide +kernel)⟩
  | ty n => cases h
  | tnk n => cases h
  | obj n d => cases h
  | fn n => cases h
theorem ukT {d : Dt} (h : (tyD d).isSome = true) : ∃ t, tyD d = some t ∧ kitB t "tuple" = some (uIsTup d) := by
  cases d with
  | non => exact ⟨_, rfl, (show kitB "NoneType" "tuple" = some false by decide +kernel)⟩
  | bl b => exact ⟨_, rfl, (show kitB "bool" "tuple" = some false by decide +kernel)⟩
  | int b => exact ⟨_, rfl, (show kitB "int" "tuple" = some false by decide +kernel)⟩
  | str b => exact ⟨_, rfl, (show kitB "str" "tuple" = some false by decide +kernel)⟩
  | lst b => exact ⟨_, rfl, (show kitB "list" "tuple" = some false by decide +kernel)⟩
  | tup b => exact ⟨_, rfl, (show kitB "tuple" "tuple" = some true by decide +kernel)⟩
  | dct => exact ⟨_, rfl, (show kitB "dict" "tuple" = some false by decide +kernel)⟩
  | ty n => cases h
  | tnk n => cases h
  | obj n d => cases h
  | fn n => cases h
section
variable {P : Program} {w : World} {K : PySem.W.Frag} {mg : Str → Option Value} {base : Heap} {c : Addr}
def w_is_int : WS := (wRet (wAndV (wCal gIsi (wCons (wV 0) (wCons (wC (.ty "int")) wNil))) (wNotV (wCal gIsi (wCons (wV 0) (wCons (wC (.ty "bool")) wNil))))))
theorem pb_is_int (B : Bl mg)   : Bdy P w K mg base 0 "is_int" s_is_int ["value"] (suR K mg c) w_is_int := fun f cdv A outer s H E hr quiet =>
      (xsOne (xsRet (xw (xAnd (xCB (pe_callB call_isi (by rfl) B.isinstance (by decide +kernel) (xWCons (xw (xV (pv 0))) (xWCons (xw (xTy (pe_bltn (v := .ty "int") (by rfl) B.int (by decide +kernel) rfl))) xWNil))) pIsi) (xOne (xNot (xCB (pe_callB call_isi (by rfl) B.isinstance (by decide +kernel) (xWCons (xw (xV (pv 0))) (xWCons (xw (xTy (pe_bltn (v := .ty "bool") (by rfl) B.bool (by decide +kernel) rfl))) xWNil))) pIsi)))))))
theorem pc_is_int (B : Bl mg) (DD : OwnDef K mg "is_int" s_is_int)   : CalG P w K mg base 1 "is_int" (spW (suR K mg c) 1 (wFn 1 w_is_int)) [] :=
  calG_by DD sc_is_int rfl (fun fd f F => F.binds (fun _ _ _ _ _ _ us hl => match us, hl with | [_], _ => rfl)) (pb_is_int B )
def f_is_int : SpF := fun ds k _ => ∃ d, ds = [d] ∧ (tyD d).isSome = true ∧ k (.bl (uIsInt d))
theorem ok_is_int (ds k e) (ln : ds.length = 1) (h : f_is_int ds k e) : wFn 1 w_is_int ds k e := by
  obtain ⟨d, rfl, hd, hk⟩ := h
  obtain ⟨t, et, eb⟩ := ukI hd
  obtain ⟨t2, et2, eb2⟩ := ukB hd
  (simp only [a_wFn, a_wFnF, a_mapS, a_map0, List.replicate, a_appS, a_app0, a_lenS, a_len0, Nat.reduceAdd, Nat.reduceSub, Nat.zero_add]; unfold w_is_int; simp only [a_wFn, a_wSeq, a_wNx, a_wBk, a_wCt, a_wEx, a_wSet, a_wOwn, a_wAsg, a_wPar, a_wRet, a_wRetN, a_wRetF, a_wRetFO, a_wParO, a_wFnF, a_wIfS, a_wApp, a_wExt, a_wFrz, a_wAugI, a_wSetIx, a_wAugIx, a_wFor, a_lookL0, a_lookLS, a_look0, a_lookS, a_lookO0, a_lookO1, a_lookOS, a_wV, a_wO, a_wC, a_wBin, a_wUn, a_wTst, a_wTru, a_wAnd, a_wOr, a_wNot, a_wAndV, a_wOrV, a_wNotV, a_wIf, a_wCh, a_wNil, a_wCons, a_wStar, a_wTup, a_wLst, a_wCal, a_wCall, a_wCall0, a_wCallK, a_wCallB, a_wAugC, gInI_i, a_wCalK, a_wSl, a_wNo, a_wPart, a_wFld, a_wMth, a_wM0, a_wM1, a_wgN, a_wgNil, a_wgCons, a_wgT, a_wLc, a_wYes, a_itK, itK_lst, itK_tup, itK_str, seqD_lst, seqD_tup, a_wRg1, a_wRg2, a_wRg3, a_wEnumU, a_wEnumL, a_wZipU, a_wRevU, a_wComb, wipeD, a_mapS, a_map0, a_lenS, a_len0, List.replicate, a_appS, a_app0, a_set0, a_setS, Nat.reduceAdd, Nat.reduceSub, Nat.zero_add, true_and, and_true, gAdd_i, gAdd_s, gAdd_l, gAdd_t, gCat_l, gSub_i, gMul_i, gMul_l, gMul_t, gFdiv_i, gMod_i, gPow_i, gLt_i, gLe_i, gGt_i, gGe_i, gLen_l, gLen_t, gLen_s, gAbs_i, gToInt_i, gToInt_b, gToBl_i, gToBl_b, gToTup_l, gToTup_t, gToLst_l, gToLst_t, gMax2_i, gMin2_i, gNeg_i, gSl_l, gSl_t, gSl_s, gSlL_l, gRevL_l, gIsN_n, gIsN_b, gIsN_i, gIsN_s, gIsN_l, gIsN_t, gNotN_n, gNotN_b, gNotN_i, gNotN_s, gNotN_l, gNotN_t, truD, gEq_int, gNe_int, Bool.not_true, Bool.not_false])
  refine ⟨t, _, et, eb, ?_⟩
  cases d <;> first | exact hk | exact ⟨t2, _, et2, eb2, hk⟩
theorem cs_is_int (B : Bl mg) (DD : OwnDef K mg "is_int" s_is_int)   : CalG P w K mg base 1 "is_int" (spW (suR K mg c) 1 f_is_int) [] :=
  (pc_is_int B DD ).imp (spW_mono fun ds k e ln h => ok_is_int ds k e ln h)
def w_is_count : WS := (wRet (wAndV (wCall0 1 f_is_int (wCons (wV 0) wNil)) (wBin gGe (wV 0) (wC (.int 0)))))
theorem pb_is_count (B : Bl mg) (C_is_int : CalG P w K mg base 1 "is_int" (spW (suR K mg c) 1 f_is_int) [])  : Bdy P w K mg base 1 "is_count" s_is_count ["value"] (suR K mg c) w_is_count := fun f cdv A outer s H E hr quiet =>
      (xsOne (xsRet (xw (xAnd (xCall0 (pe_cG quiet C_is_int hr (by decide) (by rfl) (xACons (xV (pv 0)) xANil))) (xOne (xCmp op_ge pGe (xw (xV (pv 0))) (xw (xInt pe_int)) (nomark _)))))))
theorem pc_is_count (B : Bl mg) (DD : OwnDef K mg "is_count" s_is_count) (C_is_int : CalG P w K mg base 1 "is_int" (spW (suR K mg c) 1 f_is_int) [])  : CalG P w K mg base 2 "is_count" (spW (suR K mg c) 1 (wFn 1 w_is_count)) [] :=
  calG_by DD sc_is_count rfl (fun fd f F => F.binds (fun _ _ _ _ _ _ us hl => match us, hl with | [_], _ => rfl)) (pb_is_count B C_is_int)
def uCount : Dt → Bool
  | .int i => decide (0 ≤ i)
  | _ => false
def f_is_count : SpF := fun ds k _ => ∃ d, ds = [d] ∧ (tyD d).isSome = true ∧ k (.bl (uCount d))
theorem ok_is_count (ds k e) (ln : ds.length = 1) (h : f_is_count ds k e) : wFn 1 w_is_count ds k e := by
  obtain ⟨d, rfl, hd, hk⟩ := h
  (simp only [a_wFn, a_wFnF, a_mapS, a_map0, List.replicate, a_appS, a_app0, a_lenS, a_len0, Nat.reduceAdd, Nat.reduceSub, Nat.zero_add]; unfold w_is_count; simp only [a_wFn, a_wSeq, a_wNx, a_wBk, a_wCt, a_wEx, a_wSet, a_wOwn, a_wAsg, a_wPar, a_wRet, a_wRetN, a_wRetF, a_wRetFO, a_wParO, a_wFnF, a_wIfS, a_wApp, a_wExt, a_wFrz, a_wAugI, a_wSetIx, a_wAugIx, a_wFor, a_lookL0, a_lookLS, a_look0, a_lookS, a_lookO0, a_lookO1, a_lookOS, a_wV, a_wO, a_wC, a_wBin, a_wUn, a_wTst, a_wTru, a_wAnd, a_wOr, a_wNot, a_wAndV, a_wOrV, a_wNotV, a_wIf, a_wCh, a_wNil, a_wCons, a_wStar, a_wTup, a_wLst, a_wCal, a_wCall, a_wCall0, a_wCallK, a_wCallB, a_wAugC, gInI_i, a_wCalK, a_wSl, a_wNo, a_wPart, a_wFld, a_wMth, a_wM0, a_wM1, a_wgN, a_wgNil, a_wgCons, a_wgT, a_wLc, a_wYes, a_itK, itK_lst, itK_tup, itK_str, seqD_lst, seqD_tup, a_wRg1, a_wRg2, a_wRg3, a_wEnumU, a_wEnumL, a_wZipU, a_wRevU, a_wComb, wipeD, a_mapS, a_map0, a_lenS, a_len0, List.replicate, a_appS, a_app0, a_set0, a_setS, Nat.reduceAdd, Nat.reduceSub, Nat.zero_add, true_and, and_true, gAdd_i, gAdd_s, gAdd_l, gAdd_t, gCat_l, gSub_i, gMul_i, gMul_l, gMul_t, gFdiv_i, gMod_i, gPow_i, gLt_i, gLe_i, gGt_i, gGe_i, gLen_l, gLen_t, gLen_s, gAbs_i, gToInt_i, gToInt_b, gToBl_i, gToBl_b, gToTup_l, gToTup_t, gToLst_l, gToLst_t, gMax2_i, gMin2_i, gNeg_i, gSl_l, gSl_t, gSl_s, gSlL_l, gRevL_l, gIsN_n, gIsN_b, gIsN_i, gIsN_s, gIsN_l, gIsN_t, gNotN_n, gNotN_b, gNotN_i, gNotN_s, gNotN_l, gNotN_t, truD, gEq_int, gNe_int, Bool.not_true, Bool.not_false])
  refine ⟨d, rfl, hd, ?_⟩
  cases d <;> exact hk
theorem cs_is_count (B : Bl mg) (DD : OwnDef K mg "is_count" s_is_count) (C_is_int : CalG P w K mg base 1 "is_int" (spW (suR K mg c) 1 f_is_int) [])  : CalG P w K mg base 2 "is_count" (spW (suR K mg c) 1 f_is_count) [] :=
  (pc_is_count B DD C_is_int).imp (spW_mono fun ds k e ln h => ok_is_count ds k e ln h)
def w_is_number : WS := (wSeq (wIfS (wAnd (wTst (wCal gIsi (wCons (wV 0) (wCons (wC (.ty "tuple")) wNil)))) (wTst (wBin gEq (wCal gLen (wCons (wV 0) wNil)) (wC (.int 2))))) (wRet (wAndV (wCall0 1 f_is_int (wCons (wBin gIx (wV 0) (wC (.int 0))) wNil)) (wAndV (wCall0 1 f_is_int (wCons (wBin gIx (wV 0) (wC (.int 1))) wNil)) (wBin gGe (wBin gIx (wV 0) (wC (.int 1))) (wC (.int 1)))))) wNx)
      (wRet (wCall0 1 f_is_int (wCons (wV 0) wNil))))
theorem pb_is_number (B : Bl mg) (C_is_int : CalG P w K mg base 1 "is_int" (spW (suR K mg c) 1 f_is_int) [])  : Bdy P w K mg base 1 "is_number" s_is_number ["value"] (suR K mg c) w_is_number := fun f cdv A outer s H E hr quiet =>
      (xsCons (xsIf (PW.pt (xWAnd (xTV (xCB (pe_callB call_isi (by rfl) B.isinstance (by decide +kernel) (xWCons (xw (xV (pv 0))) (xWCons (xw (xTy (pe_bltn (v := .ty "tuple") (by rfl) B.tuple (by decide +kernel) rfl))) xWNil))) pIsi)) (xWAnd1 (xTCmp (op_eqD hr.units) pEq (xw (xCB (pe_callB call_len (by rfl) B.len (by decide +kernel) (xWCons (xw (xV (pv 0))) xWNil)) pLen)) (xw (xInt pe_int)) (nomark _))))) (xsOne (xsRet (xw (xAnd (xCall0 (pe_cG quiet C_is_int hr (by decide) (by rfl) (xACons (xIx ix_seq pIx (xw (xV (pv 0))) (xw (xInt pe_int)) (fun _ _ => rfl)) xANil))) (xAnd (xCall0 (pe_cG quiet C_is_int hr (by decide) (by rfl) (xACons (xIx ix_seq pIx (xw (xV (pv 0))) (xw (xInt pe_int)) (fun _ _ => rfl)) xANil))) (xOne (xCmp op_ge pGe (xw (xIx ix_seq pIx (xw (xV (pv 0))) (xw (xInt pe_int)) (fun _ _ => rfl))) (xw (xInt pe_int)) (nomark _)))))))) xsNil)
      (xsOne (xsRet (xw (xCall0 (pe_cG quiet C_is_int hr (by decide) (by rfl) (xACons (xV (pv 0)) xANil)))))))
theorem pc_is_number (B : Bl mg) (DD : OwnDef K mg "is_number" s_is_number) (C_is_int : CalG P w K mg base 1 "is_int" (spW (suR K mg c) 1 f_is_int) [])  : CalG P w K mg base 2 "is_number" (spW (suR K mg c) 1 (wFn 1 w_is_number)) [] :=
  calG_by DD sc_is_number rfl (fun fd f F => F.binds (fun _ _ _ _ _ _ us hl => match us, hl with | [_], _ => rfl)) (pb_is_number B C_is_int)
def f_is_number : SpF := fun ds k _ => ∃ d, ds = [d] ∧ KnD d ∧ k (.bl (uIsNum d))
theorem ok_is_number (ds k e) (ln : ds.length = 1) (h : f_is_number ds k e) : wFn 1 w_is_number ds k e := by
  obtain ⟨d, rfl, hd, hk⟩ := h
  obtain ⟨t, et, eb⟩ := ukT hd.ty
  (simp only [a_wFn, a_wFnF, a_mapS, a_map0, List.replicate, a_appS, a_app0, a_lenS, a_len0, Nat.reduceAdd, Nat.reduceSub, Nat.zero_add]; unfold w_is_number; simp only [a_wFn, a_wSeq, a_wNx, a_wBk, a_wCt, a_wEx, a_wSet, a_wOwn, a_wAsg, a_wPar, a_wRet, a_wRetN, a_wRetF, a_wRetFO, a_wParO, a_wFnF, a_wIfS, a_wApp, a_wExt, a_wFrz, a_wAugI, a_wSetIx, a_wAugIx, a_wFor, a_lookL0, a_lookLS, a_look0, a_lookS, a_lookO0, a_lookO1, a_lookOS, a_wV, a_wO, a_wC, a_wBin, a_wUn, a_wTst, a_wTru, a_wAnd, a_wOr, a_wNot, a_wAndV, a_wOrV, a_wNotV, a_wIf, a_wCh, a_wNil, a_wCons, a_wStar, a_wTup, a_wLst, a_wCal, a_wCall, a_wCall0, a_wCallK, a_wCallB, a_wAugC, gInI_i, a_wCalK, a_wSl, a_wNo, a_wPart, a_wFld, a_wMth, a_wM0, a_wM1, a_wgN, a_wgNil, a_wgCons, a_wgT, a_wLc, a_wYes, a_itK, itK_lst, itK_tup, itK_str, seqD_lst, seqD_tup, a_wRg1, a_wRg2, a_wRg3, a_wEnumU, a_wEnumL, a_wZipU, a_wRevU, a_wComb, wipeD, a_mapS, a_map0, a_lenS, a_len0, List.replicate, a_appS, a_app0, a_set0, a_setS, Nat.reduceAdd, Nat.reduceSub, Nat.zero_add, true_and, and_true, gAdd_i, gAdd_s, gAdd_l, gAdd_t, gCat_l, gSub_i, gMul_i, gMul_l, gMul_t, gFdiv_i, gMod_i, gPow_i, gLt_i, gLe_i, gGt_i, gGe_i, gLen_l, gLen_t, gLen_s, gAbs_i, gToInt_i, gToInt_b, gToBl_i, gToBl_b, gToTup_l, gToTup_t, gToLst_l, gToLst_t, gMax2_i, gMin2_i, gNeg_i, gSl_l, gSl_t, gSl_s, gSlL_l, gRevL_l, gIsN_n, gIsN_b, gIsN_i, gIsN_s, gIsN_l, gIsN_t, gNotN_n, gNotN_b, gNotN_i, gNotN_s, gNotN_l, gNotN_t, truD, gEq_int, gNe_int, Bool.not_true, Bool.not_false])
  rw [gIsi_of et eb]
  match d, hd, hk with
  | .tup [], hd, hk => simp only [a_wFn, a_wSeq, a_wNx, a_wBk, a_wCt, a_wEx, a_wSet, a_wOwn, a_wAsg, a_wPar, a_wRet, a_wRetN, a_wRetF, a_wRetFO, a_wParO, a_wFnF, a_wIfS, a_wApp, a_wExt, a_wFrz, a_wAugI, a_wSetIx, a_wAugIx, a_wFor, a_lookL0, a_lookLS, a_look0, a_lookS, a_lookO0, a_lookO1, a_lookOS, a_wV, a_wO, a_wC, a_wBin, a_wUn, a_wTst, a_wTru, a_wAnd, a_wOr, a_wNot, a_wAndV, a_wOrV, a_wNotV, a_wIf, a_wCh, a_wNil, a_wCons, a_wStar, a_wTup, a_wLst, a_wCal, a_wCall, a_wCall0, a_wCallK, a_wCallB, a_wAugC, gInI_i, a_wCalK, a_wSl, a_wNo, a_wPart, a_wFld, a_wMth, a_wM0, a_wM1, a_wgN, a_wgNil, a_wgCons, a_wgT, a_wLc, a_wYes, a_itK, itK_lst, itK_tup, itK_str, seqD_lst, seqD_tup, a_wRg1, a_wRg2, a_wRg3, a_wEnumU, a_wEnumL, a_wZipU, a_wRevU, a_wComb, wipeD, a_mapS, a_map0, a_lenS, a_len0, List.replicate, a_appS, a_app0, a_set0, a_setS, Nat.reduceAdd, Nat.reduceSub, Nat.zero_add, true_and, and_true, gAdd_i, gAdd_s, gAdd_l, gAdd_t, gCat_l, gSub_i, gMul_i, gMul_l, gMul_t, gFdiv_i, gMod_i, gPow_i, gLt_i, gLe_i, gGt_i, gGe_i, gLen_l, gLen_t, gLen_s, gAbs_i, gToInt_i, gToInt_b, gToBl_i, gToBl_b, gToTup_l, gToTup_t, gToLst_l, gToLst_t, gMax2_i, gMin2_i, gNeg_i, gSl_l, gSl_t, gSl_s, gSlL_l, gRevL_l, gIsN_n, gIsN_b, gIsN_i, gIsN_s, gIsN_l, gIsN_t, gNotN_n, gNotN_b, gNotN_i, gNotN_s, gNotN_l, gNotN_t, truD, gEq_int, gNe_int, Bool.not_true, Bool.not_false]; exact ⟨_, rfl, rfl, hk⟩
  | .tup [a], hd, hk =>
    simp only [a_wFn, a_wSeq, a_wNx, a_wBk, a_wCt, a_wEx, a_wSet, a_wOwn, a_wAsg, a_wPar, a_wRet, a_wRetN, a_wRetF, a_wRetFO, a_wParO, a_wFnF, a_wIfS, a_wApp, a_wExt, a_wFrz, a_wAugI, a_wSetIx, a_wAugIx, a_wFor, a_lookL0, a_lookLS, a_look0, a_lookS, a_lookO0, a_lookO1, a_lookOS, a_wV, a_wO, a_wC, a_wBin, a_wUn, a_wTst, a_wTru, a_wAnd, a_wOr, a_wNot, a_wAndV, a_wOrV, a_wNotV, a_wIf, a_wCh, a_wNil, a_wCons, a_wStar, a_wTup, a_wLst, a_wCal, a_wCall, a_wCall0, a_wCallK, a_wCallB, a_wAugC, gInI_i, a_wCalK, a_wSl, a_wNo, a_wPart, a_wFld, a_wMth, a_wM0, a_wM1, a_wgN, a_wgNil, a_wgCons, a_wgT, a_wLc, a_wYes, a_itK, itK_lst, itK_tup, itK_str, seqD_lst, seqD_tup, a_wRg1, a_wRg2, a_wRg3, a_wEnumU, a_wEnumL, a_wZipU, a_wRevU, a_wComb, wipeD, a_mapS, a_map0, a_lenS, a_len0, List.replicate, a_appS, a_app0, a_set0, a_setS, Nat.reduceAdd, Nat.reduceSub, Nat.zero_add, true_and, and_true, gAdd_i, gAdd_s, gAdd_l, gAdd_t, gCat_l, gSub_i, gMul_i, gMul_l, gMul_t, gFdiv_i, gMod_i, gPow_i, gLt_i, gLe_i, gGt_i, gGe_i, gLen_l, gLen_t, gLen_s, gAbs_i, gToInt_i, gToInt_b, gToBl_i, gToBl_b, gToTup_l, gToTup_t, gToLst_l, gToLst_t, gMax2_i, gMin2_i, gNeg_i, gSl_l, gSl_t, gSl_s, gSlL_l, gRevL_l, gIsN_n, gIsN_b, gIsN_i, gIsN_s, gIsN_l, gIsN_t, gNotN_n, gNotN_b, gNotN_i, gNotN_s, gNotN_l, gNotN_t, truD, gEq_int, gNe_int, Bool.not_true, Bool.not_false]
    have z : uIsNum (.tup [a]) = false := by cases a <;> rfl
    rw [z] at hk
    exact ⟨_, rfl, rfl, hk⟩
  | .tup [a, b], hd, hk =>
    simp only [a_wFn, a_wSeq, a_wNx, a_wBk, a_wCt, a_wEx, a_wSet, a_wOwn, a_wAsg, a_wPar, a_wRet, a_wRetN, a_wRetF, a_wRetFO, a_wParO, a_wFnF, a_wIfS, a_wApp, a_wExt, a_wFrz, a_wAugI, a_wSetIx, a_wAugIx, a_wFor, a_lookL0, a_lookLS, a_look0, a_lookS, a_lookO0, a_lookO1, a_lookOS, a_wV, a_wO, a_wC, a_wBin, a_wUn, a_wTst, a_wTru, a_wAnd, a_wOr, a_wNot, a_wAndV, a_wOrV, a_wNotV, a_wIf, a_wCh, a_wNil, a_wCons, a_wStar, a_wTup, a_wLst, a_wCal, a_wCall, a_wCall0, a_wCallK, a_wCallB, a_wAugC, gInI_i, a_wCalK, a_wSl, a_wNo, a_wPart, a_wFld, a_wMth, a_wM0, a_wM1, a_wgN, a_wgNil, a_wgCons, a_wgT, a_wLc, a_wYes, a_itK, itK_lst, itK_tup, itK_str, seqD_lst, seqD_tup, a_wRg1, a_wRg2, a_wRg3, a_wEnumU, a_wEnumL, a_wZipU, a_wRevU, a_wComb, wipeD, a_mapS, a_map0, a_lenS, a_len0, List.replicate, a_appS, a_app0, a_set0, a_setS, Nat.reduceAdd, Nat.reduceSub, Nat.zero_add, true_and, and_true, gAdd_i, gAdd_s, gAdd_l, gAdd_t, gCat_l, gSub_i, gMul_i, gMul_l, gMul_t, gFdiv_i, gMod_i, gPow_i, gLt_i, gLe_i, gGt_i, gGe_i, gLen_l, gLen_t, gLen_s, gAbs_i, gToInt_i, gToInt_b, gToBl_i, gToBl_b, gToTup_l, gToTup_t, gToLst_l, gToLst_t, gMax2_i, gMin2_i, gNeg_i, gSl_l, gSl_t, gSl_s, gSlL_l, gRevL_l, gIsN_n, gIsN_b, gIsN_i, gIsN_s, gIsN_l, gIsN_t, gNotN_n, gNotN_b, gNotN_i, gNotN_s, gNotN_l, gNotN_t, truD, gEq_int, gNe_int, Bool.not_true, Bool.not_false]
    refine ⟨a, rfl, a, rfl, hd a (by simp), ?_⟩
    cases a with
    | int i =>
      refine ⟨b, rfl, b, rfl, hd b (by simp), ?_⟩
      cases b with
      | int j => exact ⟨_, rfl, hk⟩
      | _ => exact hk
    | _ => exact hk
  | .tup (a :: b :: x :: l), hd, hk =>
    simp only [a_wFn, a_wSeq, a_wNx, a_wBk, a_wCt, a_wEx, a_wSet, a_wOwn, a_wAsg, a_wPar, a_wRet, a_wRetN, a_wRetF, a_wRetFO, a_wParO, a_wFnF, a_wIfS, a_wApp, a_wExt, a_wFrz, a_wAugI, a_wSetIx, a_wAugIx, a_wFor, a_lookL0, a_lookLS, a_look0, a_lookS, a_lookO0, a_lookO1, a_lookOS, a_wV, a_wO, a_wC, a_wBin, a_wUn, a_wTst, a_wTru, a_wAnd, a_wOr, a_wNot, a_wAndV, a_wOrV, a_wNotV, a_wIf, a_wCh, a_wNil, a_wCons, a_wStar, a_wTup, a_wLst, a_wCal, a_wCall, a_wCall0, a_wCallK, a_wCallB, a_wAugC, gInI_i, a_wCalK, a_wSl, a_wNo, a_wPart, a_wFld, a_wMth, a_wM0, a_wM1, a_wgN, a_wgNil, a_wgCons, a_wgT, a_wLc, a_wYes, a_itK, itK_lst, itK_tup, itK_str, seqD_lst, seqD_tup, a_wRg1, a_wRg2, a_wRg3, a_wEnumU, a_wEnumL, a_wZipU, a_wRevU, a_wComb, wipeD, a_mapS, a_map0, a_lenS, a_len0, List.replicate, a_appS, a_app0, a_set0, a_setS, Nat.reduceAdd, Nat.reduceSub, Nat.zero_add, true_and, and_true, gAdd_i, gAdd_s, gAdd_l, gAdd_t, gCat_l, gSub_i, gMul_i, gMul_l, gMul_t, gFdiv_i, gMod_i, gPow_i, gLt_i, gLe_i, gGt_i, gGe_i, gLen_l, gLen_t, gLen_s, gAbs_i, gToInt_i, gToInt_b, gToBl_i, gToBl_b, gToTup_l, gToTup_t, gToLst_l, gToLst_t, gMax2_i, gMin2_i, gNeg_i, gSl_l, gSl_t, gSl_s, gSlL_l, gRevL_l, gIsN_n, gIsN_b, gIsN_i, gIsN_s, gIsN_l, gIsN_t, gNotN_n, gNotN_b, gNotN_i, gNotN_s, gNotN_l, gNotN_t, truD, gEq_int, gNe_int, Bool.not_true, Bool.not_false]
    rw [decide_eq_false (by simp; omega)]
    have z : uIsNum (.tup (a :: b :: x :: l)) = false := by cases a <;> first | rfl | (cases b <;> rfl)
    rw [z] at hk
    exact ⟨_, rfl, rfl, hk⟩
  | .int i, hd, hk => exact ⟨_, rfl, rfl, hk⟩
  | .non, hd, hk => exact ⟨_, rfl, rfl, hk⟩
  | .bl _, hd, hk => exact ⟨_, rfl, rfl, hk⟩
  | .str _, hd, hk => exact ⟨_, rfl, rfl, hk⟩
  | .lst _, hd, hk => exact ⟨_, rfl, rfl, hk⟩
  | .dct, hd, hk => exact ⟨_, rfl, rfl, hk⟩
theorem cs_is_number (B : Bl mg) (DD : OwnDef K mg "is_number" s_is_number) (C_is_int : CalG P w K mg base 1 "is_int" (spW (suR K mg c) 1 f_is_int) [])  : CalG P w K mg base 2 "is_number" (spW (suR K mg c) 1 f_is_number) [] :=
  (pc_is_number B DD C_is_int).imp (spW_mono fun ds k e ln h => ok_is_number ds k e ln h)
def w_as_pair : WS := (wRet (wIf (wTst (wCal gIsi (wCons (wV 0) (wCons (wC (.ty "tuple")) wNil)))) (wV 0) (wTup (wCons (wV 0) (wCons (wC (.int 1)) wNil)))))
theorem pb_as_pair (B : Bl mg)   : Bdy P w K mg base 0 "as_pair" s_as_pair ["number"] (suR K mg c) w_as_pair := fun f cdv A outer s H E hr quiet =>
      (xsOne (xsRet (xw (xIf (xTV (xCB (pe_callB call_isi (by rfl) B.isinstance (by decide +kernel) (xWCons (xw (xV (pv 0))) (xWCons (xw (xTy (pe_bltn (v := .ty "tuple") (by rfl) B.tuple (by decide +kernel) rfl))) xWNil))) pIsi)) (xV (pv 0)) (xTup (xACons (xV (pv 0)) (xACons (xInt pe_int) xANil)))))))
theorem pc_as_pair (B : Bl mg) (DD : OwnDef K mg "as_pair" s_as_pair)   : CalG P w K mg base 1 "as_pair" (spW (suR K mg c) 1 (wFn 1 w_as_pair)) [] :=
  calG_by DD sc_as_pair rfl (fun fd f F => F.binds (fun _ _ _ _ _ _ us hl => match us, hl with | [_], _ => rfl)) (pb_as_pair B )
/-- a number as a tuple of two -/
def f_as_pair : SpF := fun ds k _ => ∃ d q, ds = [d] ∧ numD d = some q ∧ k (prD q)
theorem numD_of {d : Dt} {q : Int × Int} (h : numD d = some q) : (∃ i, d = .int i ∧ q = (i, 1)) ∨ d = prD q := by
  match d, h with
  | .int i, h => cases h; exact .inl ⟨i, rfl, rfl⟩
  | .tup [.int a, .int b], h => cases h; exact .inr rfl
theorem ok_as_pair (ds k e) (ln : ds.length = 1) (h : f_as_pair ds k e) : wFn 1 w_as_pair ds k e := by
  obtain ⟨d, q, rfl, hd, hk⟩ := h
  (simp only [a_wFn, a_wFnF, a_mapS, a_map0, List.replicate, a_appS, a_app0, a_lenS, a_len0, Nat.reduceAdd, Nat.reduceSub, Nat.zero_add]; unfold w_as_pair; simp only [a_wFn, a_wSeq, a_wNx, a_wBk, a_wCt, a_wEx, a_wSet, a_wOwn, a_wAsg, a_wPar, a_wRet, a_wRetN, a_wRetF, a_wRetFO, a_wParO, a_wFnF, a_wIfS, a_wApp, a_wExt, a_wFrz, a_wAugI, a_wSetIx, a_wAugIx, a_wFor, a_lookL0, a_lookLS, a_look0, a_lookS, a_lookO0, a_lookO1, a_lookOS, a_wV, a_wO, a_wC, a_wBin, a_wUn, a_wTst, a_wTru, a_wAnd, a_wOr, a_wNot, a_wAndV, a_wOrV, a_wNotV, a_wIf, a_wCh, a_wNil, a_wCons, a_wStar, a_wTup, a_wLst, a_wCal, a_wCall, a_wCall0, a_wCallK, a_wCallB, a_wAugC, gInI_i, a_wCalK, a_wSl, a_wNo, a_wPart, a_wFld, a_wMth, a_wM0, a_wM1, a_wgN, a_wgNil, a_wgCons, a_wgT, a_wLc, a_wYes, a_itK, itK_lst, itK_tup, itK_str, seqD_lst, seqD_tup, a_wRg1, a_wRg2, a_wRg3, a_wEnumU, a_wEnumL, a_wZipU, a_wRevU, a_wComb, wipeD, a_mapS, a_map0, a_lenS, a_len0, List.replicate, a_appS, a_app0, a_set0, a_setS, Nat.reduceAdd, Nat.reduceSub, Nat.zero_add, true_and, and_true, gAdd_i, gAdd_s, gAdd_l, gAdd_t, gCat_l, gSub_i, gMul_i, gMul_l, gMul_t, gFdiv_i, gMod_i, gPow_i, gLt_i, gLe_i, gGt_i, gGe_i, gLen_l, gLen_t, gLen_s, gAbs_i, gToInt_i, gToInt_b, gToBl_i, gToBl_b, gToTup_l, gToTup_t, gToLst_l, gToLst_t, gMax2_i, gMin2_i, gNeg_i, gSl_l, gSl_t, gSl_s, gSlL_l, gRevL_l, gIsN_n, gIsN_b, gIsN_i, gIsN_s, gIsN_l, gIsN_t, gNotN_n, gNotN_b, gNotN_i, gNotN_s, gNotN_l, gNotN_t, truD, gEq_int, gNe_int, Bool.not_true, Bool.not_false])
  rcases numD_of hd with ⟨i, rfl, rfl⟩ | rfl
  · rw [gIsi_of (t := "int") (b := false) rfl (by decide +kernel)]
    exact ⟨by decide, hk⟩
  · rw [gIsi_of (t := "tuple") (b := true) rfl (by decide +kernel)]
    exact hk
theorem cs_as_pair (B : Bl mg) (DD : OwnDef K mg "as_pair" s_as_pair)   : CalG P w K mg base 1 "as_pair" (spW (suR K mg c) 1 f_as_pair) [] :=
  (pc_as_pair B DD ).imp (spW_mono fun ds k e ln h => ok_as_pair ds k e ln h)
def w_is_positive : WS := (wRet (wAndV (wCall0 1 f_is_number (wCons (wV 0) wNil)) (wBin gGt (wBin gIx (wCall0 1 f_as_pair (wCons (wV 0) wNil)) (wC (.int 0))) (wC (.int 0)))))
theorem pb_is_positive (B : Bl mg) (C_is_number : CalG P w K mg base 2 "is_number" (spW (suR K mg c) 1 f_is_number) []) (C_as_pair : CalG P w K mg base 1 "as_pair" (spW (suR K mg c) 1 f_as_pair) [])  : Bdy P w K mg base 2 "is_positive" s_is_positive ["value"] (suR K mg c) w_is_positive := fun f cdv A outer s H E hr quiet =>
      (xsOne (xsRet (xw (xAnd (xCall0 (pe_cG quiet C_is_number hr (by decide) (by rfl) (xACons (xV (pv 0)) xANil))) (xOne (xCmp op_gt pGt (xw (xIx ix_seq pIx (xw (xCall0 (pe_cG quiet C_as_pair hr (by decide) (by rfl) (xACons (xV (pv 0)) xANil)))) (xw (xInt pe_int)) (fun _ _ => rfl))) (xw (xInt pe_int)) (nomark _)))))))
theorem pc_is_positive (B : Bl mg) (DD : OwnDef K mg "is_positive" s_is_positive) (C_is_number : CalG P w K mg base 2 "is_number" (spW (suR K mg c) 1 f_is_number) []) (C_as_pair : CalG P w K mg base 1 "as_pair" (spW (suR K mg c) 1 f_as_pair) [])  : CalG P w K mg base 3 "is_positive" (spW (suR K mg c) 1 (wFn 1 w_is_positive)) [] :=
  calG_by DD sc_is_positive rfl (fun fd f F => F.binds (fun _ _ _ _ _ _ us hl => match us, hl with | [_], _ => rfl)) (pb_is_positive B C_is_number C_as_pair)
def uPos (d : Dt) : Bool := match numD d with
  | some q => decide (1 ≤ q.2) && decide (0 < q.1)
  | none => false
def f_is_positive : SpF := fun ds k _ => ∃ d, ds = [d] ∧ KnD d ∧ k (.bl (uPos d))
theorem ok_is_positive (ds k e) (ln : ds.length = 1) (h : f_is_positive ds k e) : wFn 1 w_is_positive ds k e := by
  obtain ⟨d, rfl, hd, hk⟩ := h
  (simp only [a_wFn, a_wFnF, a_mapS, a_map0, List.replicate, a_appS, a_app0, a_lenS, a_len0, Nat.reduceAdd, Nat.reduceSub, Nat.zero_add]; unfold w_is_positive; simp only [a_wFn, a_wSeq, a_wNx, a_wBk, a_wCt, a_wEx, a_wSet, a_wOwn, a_wAsg, a_wPar, a_wRet, a_wRetN, a_wRetF, a_wRetFO, a_wParO, a_wFnF, a_wIfS, a_wApp, a_wExt, a_wFrz, a_wAugI, a_wSetIx, a_wAugIx, a_wFor, a_lookL0, a_lookLS, a_look0, a_lookS, a_lookO0, a_lookO1, a_lookOS, a_wV, a_wO, a_wC, a_wBin, a_wUn, a_wTst, a_wTru, a_wAnd, a_wOr, a_wNot, a_wAndV, a_wOrV, a_wNotV, a_wIf, a_wCh, a_wNil, a_wCons, a_wStar, a_wTup, a_wLst, a_wCal, a_wCall, a_wCall0, a_wCallK, a_wCallB, a_wAugC, gInI_i, a_wCalK, a_wSl, a_wNo, a_wPart, a_wFld, a_wMth, a_wM0, a_wM1, a_wgN, a_wgNil, a_wgCons, a_wgT, a_wLc, a_wYes, a_itK, itK_lst, itK_tup, itK_str, seqD_lst, seqD_tup, a_wRg1, a_wRg2, a_wRg3, a_wEnumU, a_wEnumL, a_wZipU, a_wRevU, a_wComb, wipeD, a_mapS, a_map0, a_lenS, a_len0, List.replicate, a_appS, a_app0, a_set0, a_setS, Nat.reduceAdd, Nat.reduceSub, Nat.zero_add, true_and, and_true, gAdd_i, gAdd_s, gAdd_l, gAdd_t, gCat_l, gSub_i, gMul_i, gMul_l, gMul_t, gFdiv_i, gMod_i, gPow_i, gLt_i, gLe_i, gGt_i, gGe_i, gLen_l, gLen_t, gLen_s, gAbs_i, gToInt_i, gToInt_b, gToBl_i, gToBl_b, gToTup_l, gToTup_t, gToLst_l, gToLst_t, gMax2_i, gMin2_i, gNeg_i, gSl_l, gSl_t, gSl_s, gSlL_l, gRevL_l, gIsN_n, gIsN_b, gIsN_i, gIsN_s, gIsN_l, gIsN_t, gNotN_n, gNotN_b, gNotN_i, gNotN_s, gNotN_l, gNotN_t, truD, gEq_int, gNe_int, Bool.not_true, Bool.not_false])
  refine ⟨d, rfl, hd, ?_⟩
  unfold uIsNum
  unfold uPos at hk
  cases q : numD d with
  | none => rw [q] at hk; exact hk
  | some p =>
    rw [q] at hk
    cases q2 : decide (1 ≤ p.2) with
    | false => simp only [q2] at hk ⊢; exact hk
    | true =>
      simp only [q2, Bool.true_and] at hk ⊢
      exact ⟨d, p, rfl, q, _, rfl, hk⟩
theorem cs_is_positive (B : Bl mg) (DD : OwnDef K mg "is_positive" s_is_positive) (C_is_number : CalG P w K mg base 2 "is_number" (spW (suR K mg c) 1 f_is_number) []) (C_as_pair : CalG P w K mg base 1 "as_pair" (spW (suR K mg c) 1 f_as_pair) [])  : CalG P w K mg base 3 "is_positive" (spW (suR K mg c) 1 f_is_positive) [] :=
  (pc_is_positive B DD C_is_number C_as_pair).imp (spW_mono fun ds k e ln h => ok_is_positive ds k e ln h)
def w_lowest : WS := (wSeq (wAsg (wCall0 1 f_as_pair (wCons (wV 0) wNil)) (wgT 2 (wgCons (wgN 1) (wgCons (wgN 2) wgNil))))
      (wSeq (wSet 3 (wCal gGcd (wCons (wV 1) (wCons (wV 2) wNil))))
      (wRet (wTup (wCons (wBin LW.gFdiv (wV 1) (wV 3)) (wCons (wBin LW.gFdiv (wV 2) (wV 3)) wNil))))))
theorem pb_lowest (B : Bl mg) (C_as_pair : CalG P w K mg base 1 "as_pair" (spW (suR K mg c) 1 f_as_pair) []) (T : Tx K mg c) : Bdy P w K mg base 1 "lowest" s_lowest ["number", "top", "bottom", "common"] (suR K mg c) w_lowest := fun f cdv A outer s H E hr quiet =>
      (xsCons (xsAsg (xCall0 (pe_cG quiet C_as_pair hr (by decide) (by rfl) (xACons (xV (pv 0)) xANil))) (xgT (n := 2) (by rfl) (xgCons (xgN (pg_name (i := 1) sc_lowest.nd rfl (Or.inl rfl))) (xgCons (xgN (pg_name (i := 2) sc_lowest.nd rfl (Or.inl rfl))) xgNil))))
      (xsCons (xsSet (i := 3) sc_lowest.nd rfl (Or.inl rfl) (xCB (pe_callBfun cr_gcd (by rfl) T.g_gcd (xWCons (xw (xV (pv 1))) (xWCons (xw (xV (pv 2))) xWNil))) pGcd))
      (xsOne (xsRet (xw (xTup (xACons (xBin op_fdivW pFdiv (xw (xV (pv 1))) (xw (xV (pv 3)))) (xACons (xBin op_fdivW pFdiv (xw (xV (pv 2))) (xw (xV (pv 3)))) xANil))))))))
theorem pc_lowest (B : Bl mg) (DD : OwnDef K mg "lowest" s_lowest) (C_as_pair : CalG P w K mg base 1 "as_pair" (spW (suR K mg c) 1 f_as_pair) []) (T : Tx K mg c) : CalG P w K mg base 2 "lowest" (spW (suR K mg c) 1 (wFn 4 w_lowest)) [] :=
  calG_by DD sc_lowest rfl (fun fd f F => F.binds (fun _ _ _ _ _ _ us hl => match us, hl with | [_], _ => rfl)) (pb_lowest B C_as_pair T)
def f_lowest : SpF := fun ds k _ => ∃ d q, ds = [d] ∧ numD d = some q ∧ 0 < q.2 ∧ q.2.natAbs < 2 ^ 8000 ∧ k (prD (lowQ q.1 q.2))
theorem ok_lowest (ds k e) (ln : ds.length = 1) (h : f_lowest ds k e) : wFn 4 w_lowest ds k e := by
  obtain ⟨d, q, rfl, hd, h0, h1, hk⟩ := h
  (simp only [a_wFn, a_wFnF, a_mapS, a_map0, List.replicate, a_appS, a_app0, a_lenS, a_len0, Nat.reduceAdd, Nat.reduceSub, Nat.zero_add]; unfold w_lowest; simp only [a_wFn, a_wSeq, a_wNx, a_wBk, a_wCt, a_wEx, a_wSet, a_wOwn, a_wAsg, a_wPar, a_wRet, a_wRetN, a_wRetF, a_wRetFO, a_wParO, a_wFnF, a_wIfS, a_wApp, a_wExt, a_wFrz, a_wAugI, a_wSetIx, a_wAugIx, a_wFor, a_lookL0, a_lookLS, a_look0, a_lookS, a_lookO0, a_lookO1, a_lookOS, a_wV, a_wO, a_wC, a_wBin, a_wUn, a_wTst, a_wTru, a_wAnd, a_wOr, a_wNot, a_wAndV, a_wOrV, a_wNotV, a_wIf, a_wCh, a_wNil, a_wCons, a_wStar, a_wTup, a_wLst, a_wCal, a_wCall, a_wCall0, a_wCallK, a_wCallB, a_wAugC, gInI_i, a_wCalK, a_wSl, a_wNo, a_wPart, a_wFld, a_wMth, a_wM0, a_wM1, a_wgN, a_wgNil, a_wgCons, a_wgT, a_wLc, a_wYes, a_itK, itK_lst, itK_tup, itK_str, seqD_lst, seqD_tup, a_wRg1, a_wRg2, a_wRg3, a_wEnumU, a_wEnumL, a_wZipU, a_wRevU, a_wComb, wipeD, a_mapS, a_map0, a_lenS, a_len0, List.replicate, a_appS, a_app0, a_set0, a_setS, Nat.reduceAdd, Nat.reduceSub, Nat.zero_add, true_and, and_true, gAdd_i, gAdd_s, gAdd_l, gAdd_t, gCat_l, gSub_i, gMul_i, gMul_l, gMul_t, gFdiv_i, gMod_i, gPow_i, gLt_i, gLe_i, gGt_i, gGe_i, gLen_l, gLen_t, gLen_s, gAbs_i, gToInt_i, gToInt_b, gToBl_i, gToBl_b, gToTup_l, gToTup_t, gToLst_l, gToLst_t, gMax2_i, gMin2_i, gNeg_i, gSl_l, gSl_t, gSl_s, gSlL_l, gRevL_l, gIsN_n, gIsN_b, gIsN_i, gIsN_s, gIsN_l, gIsN_t, gNotN_n, gNotN_b, gNotN_i, gNotN_s, gNotN_l, gNotN_t, truD, gEq_int, gNe_int, Bool.not_true, Bool.not_false])
  refine ⟨d, q, rfl, hd, ?_⟩
  have g0 := gcd_pos (t := q.1) h0
  have g1 := gcd_le (t := q.1) h0
  have : CDivW q.1 ((Nat.gcd q.1.natAbs q.2.natAbs : Nat) : Int) := wide_div (b := 8000) (by omega) (by rw [Int.natAbs_natCast]; omega) (by decide) (by decide)
  exact ⟨rfl, rfl, this, this, by decide, hk⟩
theorem cs_lowest (B : Bl mg) (DD : OwnDef K mg "lowest" s_lowest) (C_as_pair : CalG P w K mg base 1 "as_pair" (spW (suR K mg c) 1 f_as_pair) []) (T : Tx K mg c) : CalG P w K mg base 2 "lowest" (spW (suR K mg c) 1 f_lowest) [] :=
  (pc_lowest B DD C_as_pair T).imp (spW_mono fun ds k e ln h => ok_lowest ds k e ln h)
def w_as_inverse : WS := (wSeq (wAsg (wCall0 1 f_as_pair (wCons (wV 0) wNil)) (wgT 2 (wgCons (wgN 1) (wgCons (wgN 2) wgNil))))
      (wRet (wTup (wCons (wV 2) (wCons (wV 1) wNil)))))
theorem pb_as_inverse (B : Bl mg) (C_as_pair : CalG P w K mg base 1 "as_pair" (spW (suR K mg c) 1 f_as_pair) [])  : Bdy P w K mg base 1 "as_inverse" s_as_inverse ["number", "top", "bottom"] (suR K mg c) w_as_inverse := fun f cdv A outer s H E hr quiet =>
      (xsCons (xsAsg (xCall0 (pe_cG quiet C_as_pair hr (by decide) (by rfl) (xACons (xV (pv 0)) xANil))) (xgT (n := 2) (by rfl) (xgCons (xgN (pg_name (i := 1) sc_as_inverse.nd rfl (Or.inl rfl))) (xgCons (xgN (pg_name (i := 2) sc_as_inverse.nd rfl (Or.inl rfl))) xgNil))))
      (xsOne (xsRet (xw (xTup (xACons (xV (pv 2)) (xACons (xV (pv 1)) xANil)))))))
theorem pc_as_inverse (B : Bl mg) (DD : OwnDef K mg "as_inverse" s_as_inverse) (C_as_pair : CalG P w K mg base 1 "as_pair" (spW (suR K mg c) 1 f_as_pair) [])  : CalG P w K mg base 2 "as_inverse" (spW (suR K mg c) 1 (wFn 3 w_as_inverse)) [] :=
  calG_by DD sc_as_inverse rfl (fun fd f F => F.binds (fun _ _ _ _ _ _ us hl => match us, hl with | [_], _ => rfl)) (pb_as_inverse B C_as_pair)
def f_as_inverse : SpF := fun ds k _ => ∃ d q, ds = [d] ∧ numD d = some q ∧ k (prD (q.2, q.1))
theorem ok_as_inverse (ds k e) (ln : ds.length = 1) (h : f_as_inverse ds k e) : wFn 3 w_as_inverse ds k e := by
  obtain ⟨d, q, rfl, hd, hk⟩ := h
  (simp only [a_wFn, a_wFnF, a_mapS, a_map0, List.replicate, a_appS, a_app0, a_lenS, a_len0, Nat.reduceAdd, Nat.reduceSub, Nat.zero_add]; unfold w_as_inverse; simp only [a_wFn, a_wSeq, a_wNx, a_wBk, a_wCt, a_wEx, a_wSet, a_wOwn, a_wAsg, a_wPar, a_wRet, a_wRetN, a_wRetF, a_wRetFO, a_wParO, a_wFnF, a_wIfS, a_wApp, a_wExt, a_wFrz, a_wAugI, a_wSetIx, a_wAugIx, a_wFor, a_lookL0, a_lookLS, a_look0, a_lookS, a_lookO0, a_lookO1, a_lookOS, a_wV, a_wO, a_wC, a_wBin, a_wUn, a_wTst, a_wTru, a_wAnd, a_wOr, a_wNot, a_wAndV, a_wOrV, a_wNotV, a_wIf, a_wCh, a_wNil, a_wCons, a_wStar, a_wTup, a_wLst, a_wCal, a_wCall, a_wCall0, a_wCallK, a_wCallB, a_wAugC, gInI_i, a_wCalK, a_wSl, a_wNo, a_wPart, a_wFld, a_wMth, a_wM0, a_wM1, a_wgN, a_wgNil, a_wgCons, a_wgT, a_wLc, a_wYes, a_itK, itK_lst, itK_tup, itK_str, seqD_lst, seqD_tup, a_wRg1, a_wRg2, a_wRg3, a_wEnumU, a_wEnumL, a_wZipU, a_wRevU, a_wComb, wipeD, a_mapS, a_map0, a_lenS, a_len0, List.replicate, a_appS, a_app0, a_set0, a_setS, Nat.reduceAdd, Nat.reduceSub, Nat.zero_add, true_and, and_true, gAdd_i, gAdd_s, gAdd_l, gAdd_t, gCat_l, gSub_i, gMul_i, gMul_l, gMul_t, gFdiv_i, gMod_i, gPow_i, gLt_i, gLe_i, gGt_i, gGe_i, gLen_l, gLen_t, gLen_s, gAbs_i, gToInt_i, gToInt_b, gToBl_i, gToBl_b, gToTup_l, gToTup_t, gToLst_l, gToLst_t, gMax2_i, gMin2_i, gNeg_i, gSl_l, gSl_t, gSl_s, gSlL_l, gRevL_l, gIsN_n, gIsN_b, gIsN_i, gIsN_s, gIsN_l, gIsN_t, gNotN_n, gNotN_b, gNotN_i, gNotN_s, gNotN_l, gNotN_t, truD, gEq_int, gNe_int, Bool.not_true, Bool.not_false])
  exact ⟨d, q, rfl, hd, rfl, rfl, by decide, hk⟩
theorem cs_as_inverse (B : Bl mg) (DD : OwnDef K mg "as_inverse" s_as_inverse) (C_as_pair : CalG P w K mg base 1 "as_pair" (spW (suR K mg c) 1 f_as_pair) [])  : CalG P w K mg base 2 "as_inverse" (spW (suR K mg c) 1 f_as_inverse) [] :=
  (pc_as_inverse B DD C_as_pair).imp (spW_mono fun ds k e ln h => ok_as_inverse ds k e ln h)
def w_common_bottom : WS := (wSeq (wSet 1 (wC (.int 1)))
      (wSeq (wFor (wIt (wV 0)) (wgT 2 (wgCons (wgN 2) (wgCons (wgN 3) wgNil)))
      (wSet 1 (wCal gLcm (wCons (wV 1) (wCons (wV 3) wNil)))))
      (wRet (wV 1))))
theorem pb_common_bottom (B : Bl mg)  (T : Tx K mg c) : Bdy P w K mg base 0 "common_bottom" s_common_bottom ["pairs", "common", "_", "bottom"] (suR K mg c) w_common_bottom := fun f cdv A outer s H E hr quiet =>
      (xsCons (xsSet (i := 1) sc_common_bottom.nd rfl (Or.inl rfl) (xInt pe_int))
      (xsCons (xsFor PassesOwn.never (by rfl) (xIt (xV (pv 0))) (xgT (n := 2) (by rfl) (xgCons (xgN (pg_name (i := 2) sc_common_bottom.nd rfl (Or.inl rfl))) (xgCons (xgN (pg_name (i := 3) sc_common_bottom.nd rfl (Or.inl rfl))) xgNil)))
      (xsOne (xsSet (i := 1) sc_common_bottom.nd rfl (Or.inl rfl) (xCB (pe_callBfun cr_lcm (by rfl) T.g_lcm (xWCons (xw (xV (pv 1))) (xWCons (xw (xV (pv 3))) xWNil))) pLcm))))
      (xsOne (xsRet (xw (xV (pv 1)))))))
theorem pc_common_bottom (B : Bl mg) (DD : OwnDef K mg "common_bottom" s_common_bottom)  (T : Tx K mg c) : CalG P w K mg base 1 "common_bottom" (spW (suR K mg c) 1 (wFn 4 w_common_bottom)) [] :=
  calG_by DD sc_common_bottom rfl (fun fd f F => F.binds (fun _ _ _ _ _ _ us hl => match us, hl with | [_], _ => rfl)) (pb_common_bottom B T)
/-- pairs that may stand in a common denominator -/
structure OkP (qs : List (Int × Int)) : Prop where
  len : qs.length ≤ 40
  pos : ∀ q ∈ qs, 0 < q.2 ∧ q.2.natAbs < 2 ^ 200
theorem OkP.lt {qs : List (Int × Int)} (h : OkP qs) : lcmN qs < 2 ^ 8001 := Nat.lt_of_lt_of_le (lcmN_lt _ qs rfl fun q hq => (h.pos q hq).2) (Nat.pow_le_pow_right (by decide) (by have := h.len; omega))
theorem OkP.take {qs : List (Int × Int)} (h : OkP qs) (n : Nat) : OkP (qs.take n) := ⟨by rw [List.length_take]; have := h.len; omega, fun q hq => h.pos q (List.mem_of_mem_take hq)⟩
theorem OkP.lt39 {qs : List (Int × Int)} (h : OkP qs) (l : qs.length ≤ 39) : lcmN qs < 2 ^ 8000 := Nat.lt_of_lt_of_le (lcmN_lt _ qs rfl fun q hq => (h.pos q hq).2) (Nat.pow_le_pow_right (by decide) (by omega))
theorem take_snoc {α : Type} {l : List α} {i : Nat} {x : α} (h : l[i]? = some x) : l.take (i + 1) = l.take i ++ [x] := by rw [List.take_add_one, h]; rfl
def f_common_bottom : SpF := fun ds k _ => ∃ qs, ds = [.lst (qs.map prD)] ∧ OkP qs ∧ k (.int (lcmN qs : Nat))
theorem ok_common_bottom (ds k e) (ln : ds.length = 1) (h : f_common_bottom ds k e) : wFn 4 w_common_bottom ds k e := by
  obtain ⟨qs, rfl, ok, hk⟩ := h
  (simp only [a_wFn, a_wFnF, a_mapS, a_map0, List.replicate, a_appS, a_app0, a_lenS, a_len0, Nat.reduceAdd, Nat.reduceSub, Nat.zero_add]; unfold w_common_bottom; simp only [a_wFn, a_wSeq, a_wNx, a_wBk, a_wCt, a_wEx, a_wSet, a_wOwn, a_wAsg, a_wPar, a_wRet, a_wRetN, a_wRetF, a_wRetFO, a_wParO, a_wFnF, a_wIfS, a_wApp, a_wExt, a_wFrz, a_wAugI, a_wSetIx, a_wAugIx, a_wFor, a_lookL0, a_lookLS, a_look0, a_lookS, a_lookO0, a_lookO1, a_lookOS, a_wV, a_wO, a_wC, a_wBin, a_wUn, a_wTst, a_wTru, a_wAnd, a_wOr, a_wNot, a_wAndV, a_wOrV, a_wNotV, a_wIf, a_wCh, a_wNil, a_wCons, a_wStar, a_wTup, a_wLst, a_wCal, a_wCall, a_wCall0, a_wCallK, a_wCallB, a_wAugC, gInI_i, a_wCalK, a_wSl, a_wNo, a_wPart, a_wFld, a_wMth, a_wM0, a_wM1, a_wgN, a_wgNil, a_wgCons, a_wgT, a_wLc, a_wYes, a_itK, itK_lst, itK_tup, itK_str, seqD_lst, seqD_tup, a_wRg1, a_wRg2, a_wRg3, a_wEnumU, a_wEnumL, a_wZipU, a_wRevU, a_wComb, wipeD, a_mapS, a_map0, a_lenS, a_len0, List.replicate, a_appS, a_app0, a_set0, a_setS, Nat.reduceAdd, Nat.reduceSub, Nat.zero_add, true_and, and_true, gAdd_i, gAdd_s, gAdd_l, gAdd_t, gCat_l, gSub_i, gMul_i, gMul_l, gMul_t, gFdiv_i, gMod_i, gPow_i, gLt_i, gLe_i, gGt_i, gGe_i, gLen_l, gLen_t, gLen_s, gAbs_i, gToInt_i, gToInt_b, gToBl_i, gToBl_b, gToTup_l, gToTup_t, gToLst_l, gToLst_t, gMax2_i, gMin2_i, gNeg_i, gSl_l, gSl_t, gSl_s, gSlL_l, gRevL_l, gIsN_n, gIsN_b, gIsN_i, gIsN_s, gIsN_l, gIsN_t, gNotN_n, gNotN_b, gNotN_i, gNotN_s, gNotN_l, gNotN_t, truD, gEq_int, gNe_int, Bool.not_true, Bool.not_false])
  refine forL_by (fun i δ => ∃ a b, δ = [some (.val (.lst (qs.map prD))), some (.val (.int (lcmN (qs.take i) : Nat))), a, b]) ⟨none, none, rfl⟩ (fun i d δ K hd hI hK => ?_) fun δ hI => ?_
  · obtain ⟨a, b, rfl⟩ := hI
    obtain ⟨q, hq, rfl⟩ := some_map hd
    have lt := (List.getElem?_eq_some_iff.mp hq).1
    have hm := ok.pos q (List.mem_of_getElem? hq)
    simp only [a_wFn, a_wSeq, a_wNx, a_wBk, a_wCt, a_wEx, a_wSet, a_wOwn, a_wAsg, a_wPar, a_wRet, a_wRetN, a_wRetF, a_wRetFO, a_wParO, a_wFnF, a_wIfS, a_wApp, a_wExt, a_wFrz, a_wAugI, a_wSetIx, a_wAugIx, a_wFor, a_lookL0, a_lookLS, a_look0, a_lookS, a_lookO0, a_lookO1, a_lookOS, a_wV, a_wO, a_wC, a_wBin, a_wUn, a_wTst, a_wTru, a_wAnd, a_wOr, a_wNot, a_wAndV, a_wOrV, a_wNotV, a_wIf, a_wCh, a_wNil, a_wCons, a_wStar, a_wTup, a_wLst, a_wCal, a_wCall, a_wCall0, a_wCallK, a_wCallB, a_wAugC, gInI_i, a_wCalK, a_wSl, a_wNo, a_wPart, a_wFld, a_wMth, a_wM0, a_wM1, a_wgN, a_wgNil, a_wgCons, a_wgT, a_wLc, a_wYes, a_itK, itK_lst, itK_tup, itK_str, seqD_lst, seqD_tup, a_wRg1, a_wRg2, a_wRg3, a_wEnumU, a_wEnumL, a_wZipU, a_wRevU, a_wComb, wipeD, a_mapS, a_map0, a_lenS, a_len0, List.replicate, a_appS, a_app0, a_set0, a_setS, Nat.reduceAdd, Nat.reduceSub, Nat.zero_add, true_and, and_true, gAdd_i, gAdd_s, gAdd_l, gAdd_t, gCat_l, gSub_i, gMul_i, gMul_l, gMul_t, gFdiv_i, gMod_i, gPow_i, gLt_i, gLe_i, gGt_i, gGe_i, gLen_l, gLen_t, gLen_s, gAbs_i, gToInt_i, gToInt_b, gToBl_i, gToBl_b, gToTup_l, gToTup_t, gToLst_l, gToLst_t, gMax2_i, gMin2_i, gNeg_i, gSl_l, gSl_t, gSl_s, gSlL_l, gRevL_l, gIsN_n, gIsN_b, gIsN_i, gIsN_s, gIsN_l, gIsN_t, gNotN_n, gNotN_b, gNotN_i, gNotN_s, gNotN_l, gNotN_t, truD, gEq_int, gNe_int, Bool.not_true, Bool.not_false]
    refine ⟨rfl, rfl, ?_⟩
    refine ⟨by rw [Int.natAbs_natCast]; exact (ok.take i).lt39 (by rw [List.length_take]; have := ok.len; omega), Nat.lt_trans hm.2 (by decide +kernel), hK _ ⟨some (.val (.int q.1)), some (.val (.int q.2)), ?_⟩⟩
    rw [take_snoc hq, lcmN_app, Int.natAbs_natCast]
  · obtain ⟨a, b, rfl⟩ := hI
    rw [List.length_map,
          List.take_length]
    simp only [a_wFn, a_wSeq, a_wNx, a_wBk, a_wCt, a_wEx, a_wSet, a_wOwn, a_wAsg, a_wPar, a_wRet, a_wRetN, a_wRetF, a_wRetFO, a_wParO, a_wFnF, a_wIfS, a_wApp, a_wExt, a_wFrz, a_wAugI, a_wSetIx, a_wAugIx, a_wFor, a_lookL0, a_lookLS, a_look0, a_lookS, a_lookO0, a_lookO1, a_lookOS, a_wV, a_wO, a_wC, a_wBin, a_wUn, a_wTst, a_wTru, a_wAnd, a_wOr, a_wNot, a_wAndV, a_wOrV, a_wNotV, a_wIf, a_wCh, a_wNil, a_wCons, a_wStar, a_wTup, a_wLst, a_wCal, a_wCall, a_wCall0, a_wCallK, a_wCallB, a_wAugC, gInI_i, a_wCalK, a_wSl, a_wNo, a_wPart, a_wFld, a_wMth, a_wM0, a_wM1, a_wgN, a_wgNil, a_wgCons, a_wgT, a_wLc, a_wYes, a_itK, itK_lst, itK_tup, itK_str, seqD_lst, seqD_tup, a_wRg1, a_wRg2, a_wRg3, a_wEnumU, a_wEnumL, a_wZipU, a_wRevU, a_wComb, wipeD, a_mapS, a_map0, a_lenS, a_len0, List.replicate, a_appS, a_app0, a_set0, a_setS, Nat.reduceAdd, Nat.reduceSub, Nat.zero_add, true_and, and_true, gAdd_i, gAdd_s, gAdd_l, gAdd_t, gCat_l, gSub_i, gMul_i, gMul_l, gMul_t, gFdiv_i, gMod_i, gPow_i, gLt_i, gLe_i, gGt_i, gGe_i, gLen_l, gLen_t, gLen_s, gAbs_i, gToInt_i, gToInt_b, gToBl_i, gToBl_b, gToTup_l, gToTup_t, gToLst_l, gToLst_t, gMax2_i, gMin2_i, gNeg_i, gSl_l, gSl_t, gSl_s, gSlL_l, gRevL_l, gIsN_n, gIsN_b, gIsN_i, gIsN_s, gIsN_l, gIsN_t, gNotN_n, gNotN_b, gNotN_i, gNotN_s, gNotN_l, gNotN_t, truD, gEq_int, gNe_int, Bool.not_true, Bool.not_false]
    exact hk
theorem cs_common_bottom (B : Bl mg) (DD : OwnDef K mg "common_bottom" s_common_bottom)  (T : Tx K mg c) : CalG P w K mg base 1 "common_bottom" (spW (suR K mg c) 1 f_common_bottom) [] :=
  (pc_common_bottom B DD T).imp (spW_mono fun ds k e ln h => ok_common_bottom ds k e ln h)
def w_in_integers : WS := (wSeq (wSet 1 (wLc [2] (wIt (wV 0)) (wgN 2) wYes (wCall0 1 f_as_pair (wCons (wV 2) wNil))))
      (wSeq (wSet 3 (wCall0 1 f_common_bottom (wCons (wV 1) wNil)))
      (wRet (wLc [4, 5] (wIt (wV 1)) (wgT 2 (wgCons (wgN 4) (wgCons (wgN 5) wgNil))) wYes (wBin LW.gMul (wV 4) (wBin LW.gFdiv (wV 3) (wV 5)))))))
theorem pb_in_integers (B : Bl mg) (C_common_bottom : CalG P w K mg base 1 "common_bottom" (spW (suR K mg c) 1 f_common_bottom) []) (C_as_pair : CalG P w K mg base 1 "as_pair" (spW (suR K mg c) 1 f_as_pair) [])  : Bdy P w K mg base 1 "in_integers" s_in_integers ["numbers", "pairs", "number", "common", "top", "bottom"] (suR K mg c) w_in_integers := fun f cdv A outer s H E hr quiet =>
      (xsCons (xsLcSet (i := 1) (ps_setLc (own := [("number", 2)]) (by rfl) sc_in_integers.nd rfl rfl (sw_true rfl rfl rfl (by decide +kernel)) (xItC (xw (xV (pv 0)))) (blkOk_by (own := [("number", 2)]) (N := ["numbers", "pairs", "number", "common", "top", "bottom"]) (sc := defScope s_in_integers) (by decide +kernel)) (fun _ _ _ _ _ => (xgN (pg_name (i := 2) sc_in_integers.nd rfl (Or.inl rfl)))) (fun _ _ _ _ _ => xPts0) (fun _ _ _ _ _ => (xCall0 (pe_cG quiet C_as_pair hr (by decide) (by rfl) (xACons (xV (pv 2)) xANil))))) (by decide))
      (xsCons (xsSet (i := 3) sc_in_integers.nd rfl (Or.inr rfl) (xCall0 (pe_cG quiet C_common_bottom hr (by decide) (by rfl) (xACons (xV (pv 1)) xANil))))
      (xsOne (xsRet (xw (xf (xLc (own := [("top", 4), ("bottom", 5)]) (by rfl) sc_in_integers.nd (xItC (xw (xV (pv 1)))) (blkOk_by (own := [("top", 4), ("bottom", 5)]) (N := ["numbers", "pairs", "number", "common", "top", "bottom"]) (sc := defScope s_in_integers) (by decide +kernel)) (fun _ _ _ _ _ => (xgT (n := 2) (by rfl) (xgCons (xgN (pg_name (i := 4) sc_in_integers.nd rfl (Or.inl rfl))) (xgCons (xgN (pg_name (i := 5) sc_in_integers.nd rfl (Or.inl rfl))) xgNil)))) (fun _ _ _ _ _ => xPts0) (fun _ _ _ _ _ => (xBin op_mulU pMul (xw (xV (pv 4))) (xw (xBin op_fdivW pFdiv (xw (xV (pv 3))) (xw (xV (pv 5))))))) (by decide))))))))
theorem pc_in_integers (B : Bl mg) (DD : OwnDef K mg "in_integers" s_in_integers) (C_common_bottom : CalG P w K mg base 1 "common_bottom" (spW (suR K mg c) 1 f_common_bottom) []) (C_as_pair : CalG P w K mg base 1 "as_pair" (spW (suR K mg c) 1 f_as_pair) [])  : CalG P w K mg base 2 "in_integers" (spW (suR K mg c) 1 (wFn 6 w_in_integers)) [] :=
  calG_by DD sc_in_integers rfl (fun fd f F => F.binds (fun _ _ _ _ _ _ us hl => match us, hl with | [_], _ => rfl)) (pb_in_integers B C_common_bottom C_as_pair)
/-- numbers over their common denominator -/
def wholes (qs : List (Int × Int)) : List Int := qs.map fun q => timesQ (lcmN qs : Nat) q
structure OkP2 (qs : List (Int × Int)) : Prop extends OkP qs where
  top : ∀ q ∈ qs, q.1.natAbs < 2 ^ 300
def f_in_integers : SpF := fun ds k _ => ∃ d l qs, ds = [d] ∧ seqD d = some l ∧ l.map numD = qs.map some ∧ OkP2 qs ∧ k (.lst ((wholes qs).map Dt.int))
theorem nums_at {l : List Dt} {qs : List (Int × Int)} (h : l.map numD = qs.map some) {i : Nat} {d : Dt} (e : l[i]? = some d) : ∃ q, qs[i]? = some q ∧ numD d = some q := by
  have := congrArg (fun z => z[i]?) h
  simp only [List.getElem?_map, e, Option.map_some] at this
  cases q : qs[i]? with
  | none => rw [q] at this; cases this
  | some p => rw [q] at this; exact ⟨p, rfl, Option.some.inj this⟩
theorem nums_len {l : List Dt} {qs : List (Int × Int)} (h : l.map numD = qs.map some) : l.length = qs.length := by
  have := congrArg
        List.length h
  rwa [List.length_map, List.length_map] at this
theorem OkP2.unit {qs : List (Int × Int)} (h : OkP2 qs) {q : Int × Int} (hq : q ∈ qs) : CDivW (lcmN qs : Nat) q.2 ∧ CMulW q.1 ((lcmN qs : Nat) / q.2 : Int) := by
  obtain ⟨p0, p1⟩ := h.pos q hq
  refine ⟨wide_div (b := 200) p0 p1 (by decide) (by decide), wide_mul (a := 300) (b := 8001) (h.top q hq) ?_ (by decide) (by decide) (by decide)⟩
  refine Nat.lt_of_le_of_lt (Int.natAbs_ediv_le_natAbs _ _) ?_
  rw [Int.natAbs_natCast]
  exact h.lt
theorem ok_in_integers (ds k e) (ln : ds.length = 1) (h : f_in_integers ds k e) : wFn 6 w_in_integers ds k e := by
  obtain ⟨d, l, qs, rfl, hs, hn, ok, hk⟩ := h
  have ll := nums_len hn
  have l40 := ok.len
  (simp only [a_wFn, a_wFnF, a_mapS, a_map0, List.replicate, a_appS, a_app0, a_lenS, a_len0, Nat.reduceAdd, Nat.reduceSub, Nat.zero_add]; unfold w_in_integers; simp only [a_wFn, a_wSeq, a_wNx, a_wBk, a_wCt, a_wEx, a_wSet, a_wOwn, a_wAsg, a_wPar, a_wRet, a_wRetN, a_wRetF, a_wRetFO, a_wParO, a_wFnF, a_wIfS, a_wApp, a_wExt, a_wFrz, a_wAugI, a_wSetIx, a_wAugIx, a_wFor, a_lookL0, a_lookLS, a_look0, a_lookS, a_lookO0, a_lookO1, a_lookOS, a_wV, a_wO, a_wC, a_wBin, a_wUn, a_wTst, a_wTru, a_wAnd, a_wOr, a_wNot, a_wAndV, a_wOrV, a_wNotV, a_wIf, a_wCh, a_wNil, a_wCons, a_wStar, a_wTup, a_wLst, a_wCal, a_wCall, a_wCall0, a_wCallK, a_wCallB, a_wAugC, gInI_i, a_wCalK, a_wSl, a_wNo, a_wPart, a_wFld, a_wMth, a_wM0, a_wM1, a_wgN, a_wgNil, a_wgCons, a_wgT, a_wLc, a_wYes, a_itK, itK_lst, itK_tup, itK_str, seqD_lst, seqD_tup, a_wRg1, a_wRg2, a_wRg3, a_wEnumU, a_wEnumL, a_wZipU, a_wRevU, a_wComb, wipeD, a_mapS, a_map0, a_lenS, a_len0, List.replicate, a_appS, a_app0, a_set0, a_setS, Nat.reduceAdd, Nat.reduceSub, Nat.zero_add, true_and, and_true, gAdd_i, gAdd_s, gAdd_l, gAdd_t, gCat_l, gSub_i, gMul_i, gMul_l, gMul_t, gFdiv_i, gMod_i, gPow_i, gLt_i, gLe_i, gGt_i, gGe_i, gLen_l, gLen_t, gLen_s, gAbs_i, gToInt_i, gToInt_b, gToBl_i, gToBl_b, gToTup_l, gToTup_t, gToLst_l, gToLst_t, gMax2_i, gMin2_i, gNeg_i, gSl_l, gSl_t, gSl_s, gSlL_l, gRevL_l, gIsN_n, gIsN_b, gIsN_i, gIsN_s, gIsN_l, gIsN_t, gNotN_n, gNotN_b, gNotN_i, gNotN_s, gNotN_l, gNotN_t, truD, gEq_int, gNe_int, Bool.not_true, Bool.not_false])
  rw [itK_seq hs]
  refine ⟨by omega, ?_⟩
  refine lcL_rel (fun i d y => ∃ q, qs[i]? = some q ∧ y = prD q) (fun i x K hx hK => ?_) fun out ol hr => ?_
  · obtain ⟨q, hq, e1⟩ := nums_at hn hx
    exact ⟨x, q, rfl, e1, hK _ ⟨q, hq, rfl⟩⟩
  have eo : out = qs.map prD := by
    refine List.ext_getElem? fun i => ?_
    rw [List.getElem?_map]
    cases hy : out[i]? with
    | none => rw [List.getElem?_eq_none_iff.mpr (by have := List.getElem?_eq_none_iff.mp hy; omega)]; rfl
    | some y =>
      have lt := (List.getElem?_eq_some_iff.mp hy).1
      obtain ⟨q, hq, rfl⟩ := hr i _ y (List.getElem?_eq_getElem (by omega)) hy
      rw [hq]; rfl
  rw [eo]
  refine ⟨qs, rfl, ok.toOkP, ?_⟩
  refine ⟨by rw [List.length_map]; omega, ?_⟩
  refine lcL_map (fun d => match d with | .tup [.int a, .int b] => .int (timesQ (lcmN qs : Nat) (a, b)) | _ => .non) (fun x K hx => ?_) ?_
  · obtain ⟨q, hq, rfl⟩ := List.mem_map.mp hx
    intro hK
    obtain ⟨c1, c2⟩ := ok.unit hq
    exact ⟨rfl, rfl, c1, c2, hK⟩
  · rw [List.map_map]
    unfold wholes at hk
    rw [List.map_map] at hk
    exact hk
theorem cs_in_integers (B : Bl mg) (DD : OwnDef K mg "in_integers" s_in_integers) (C_common_bottom : CalG P w K mg base 1 "common_bottom" (spW (suR K mg c) 1 f_common_bottom) []) (C_as_pair : CalG P w K mg base 1 "as_pair" (spW (suR K mg c) 1 f_as_pair) [])  : CalG P w K mg base 2 "in_integers" (spW (suR K mg c) 1 f_in_integers) [] :=
  (pc_in_integers B DD C_common_bottom C_as_pair).imp (spW_mono fun ds k e ln h => ok_in_integers ds k e ln h)
end

end LW

set_option Elab.async false
set_option linter.all false
set_option maxRecDepth 100000
set_option maxHeartbeats 4000100
set_option exponentiation.threshold 20000
namespace LW
open L2 PySem.Spec PyProof.Rows PySem
/-! ### rules and divisions, in plain data -/
theorem Met.imp {P : Program} {w : World} {K : PySem.W.Frag} {mg : Str → Option Value} {base : Heap} {k : Nat} {C : Addr} {m : Str} {sp sp' : Sp} (M : Met P w K mg base k C m sp) (h : ∀ vs H Q E, sp' vs H Q E → sp vs H Q E) : Met P w K mg base k C m sp' := by
  obtain ⟨f, fd, ps, c1, c2, F, b⟩ := M.ex
  exact ⟨f, fd, ps, c1, c2, FnOk.imp F h, b⟩
theorem MO_whole_mark {K : PySem.W.Frag} {mg : Str → Option Value} {c : Addr} : MetOk (suR K mg c) 0 c "whole_mark" := ⟨fun d H v h => by
  obtain ⟨_, r, o, hd, rfl, rfl, vr, R⟩ := h
  obtain ⟨dx, v0, v1, v2, v3, e, _⟩ := R.ex
  exact ⟨r, dx, _, rfl, e, by simp [rFs, putF]; decide +kernel⟩⟩
def f_whole_mark : SpF := fun ds k _ => ∃ o hd n, ds = [.obj 0 (ruD o hd), .int n] ∧ VR o hd ∧ 0 ≤ n ∧ n.natAbs < 2 ^ 8000 ∧ k (.int (wholeQ o hd n))
theorem qs_inj {f : Int × Int → Dt} (hf : ∀ p q, f p = f q → p = q) : ∀ {l r : List (Int × Int)}, l.map f = r.map f → l = r
  | [], [], _ => rfl
  | [], _ :: _, h => by
        simp at h
  | _ :: _, [], h => by
        simp at h
  | a :: l, b :: r, h => by
    rw [List.map_cons,
          List.map_cons] at h
    injection h with h1 h2
    rw [hf _ _ h1, qs_inj hf h2]
theorem ruD_inj {o o' : Int × Int} {hd hd' : List (Int × Int)} (h : ruD o hd = ruD o' hd') : o = o' ∧ hd = hd' := by
  unfold ruD at h
  injection h with h
  injection h with h1 h2
  injection h2 with h2
  injection h1 with h1
  injection h1 with a1 a2
  injection a2 with a2
  injection a1 with a1
  injection a2 with a2
  injection h2 with h2
  refine ⟨Prod.ext a1 a2, qs_inj (fun p q e => ?_) h2⟩
  injection e with e
  injection e with e1 e2
  injection e2 with e2
  injection e1 with e1
  injection e2 with e2
  exact Prod.ext e1 e2
section
variable {P : Program} {w : World} {K : PySem.W.Frag} {mg : Str → Option Value} {base : Heap} {c : Addr}
theorem Das.two {S : Su} {M : Mu} {H : Hp} {vs : List V} {d e : Dt} (h : Das S M H vs [d, e]) : ∃ v u, vs = [v, u] ∧ Da S M H v d ∧ Da S M H u e := by
  obtain ⟨v, ws, rfl, h1, r⟩ := h.of_cons
  obtain ⟨u, us, rfl, h2, r2⟩ := r.of_cons
  rw [r2.of_nil]
  exact ⟨v, u, rfl, h1, h2⟩
theorem br_whole_mark (M : Met P w K mg base 1 c "whole_mark" (sp_Rule_whole_mark K c)) : Met P w K mg base 1 c "whole_mark" (spW (suR K mg c) 2 f_whole_mark) := M.imp fun vs H Q E ⟨Mu, A, ds, k, e, ln, hd, mA, m, hv, hw, a, ax⟩ => by
  obtain ⟨o, hd', n, rfl, vr, n0, n1, hk⟩ := hw
  obtain ⟨v, u, rfl, h1, h2⟩ := hv.two
  cases h1 with
  | obj h =>
    obtain ⟨_, r, o2, hd2, rfl, e2, vr2, R⟩ := h
    obtain ⟨rfl, rfl⟩ := ruD_inj e2
    exact ⟨r, [], _, _, n, by rw [h2.int_eq], R.same hv_le, vr, n0, n1, a _ _ _ .refl m (.int _) hk⟩
end
section
variable {P : Program} {w : World} {K : PySem.W.Frag} {mg : Str → Option Value} {base : Heap} {c : Addr}
theorem wholeQ_mul {o : Int × Int} {hd : List (Int × Int)} (r : VR o hd) {n : Int} (n0 : 0 ≤ n) : wholeQ o hd n * (markQ o hd n).2 = (markQ o hd n).1 * unitQ o hd ∧ 0 < (markQ o hd n).2 ∧ 0 ≤ (markQ o hd n).1 := by
  have key : ∀ q ∈ o :: hd, 0 ≤ q.1 → timesQ (unitQ o hd) q * q.2 = q.1 * unitQ o hd ∧ 0 < q.2 ∧ 0 ≤ q.1 := fun q hq h0 => by
    obtain ⟨x, hx⟩ := r.unit.2.2 q hq
    have b := (r.bots q hq).1
    refine ⟨?_, b, h0⟩
    show q.1 * (unitQ o hd / q.2) * q.2 = _
    rw [Int.mul_assoc, Int.ediv_mul_cancel ⟨x, hx⟩]
  unfold wholeQ
  unfold markQ
  split
  · rename_i h
    rw [List.getD_eq_getElem?_getD, List.getElem?_eq_getElem
          (by omega), Option.getD_some]
    exact key _ (List.mem_cons_of_mem _ (List.getElem_mem _)) (r.oks _ (List.getElem_mem _)).1.a
  · have b := (r.bots o List.mem_cons_self).1
    obtain ⟨x, hx⟩ := r.unit.2.2 o List.mem_cons_self
    refine ⟨?_, b, ?_⟩
    · show (o.1 + n * o.2) * (unitQ o hd / o.2) * o.2 = _
      rw [Int.mul_assoc, Int.ediv_mul_cancel ⟨x, hx⟩]
      rfl
    · have h1 := r.ok.a
      have h2 := Int.mul_nonneg n0 (Int.le_of_lt b)
      show 0 ≤ o.1 + n * o.2
      omega
theorem wholeQ_nn {o : Int × Int} {hd : List (Int × Int)} (r : VR o hd) {n : Int} (n0 : 0 ≤ n) : 0 ≤ wholeQ o hd n := by
  obtain ⟨e, b, a⟩ := wholeQ_mul r n0
  have u := r.unit.1
  have : 0 ≤ wholeQ o hd n * (markQ o hd n).2 := by rw [e]; exact Int.mul_nonneg a (Int.le_of_lt u)
  exact Int.nonneg_of_mul_nonneg_left this b
theorem wholeQ_lt {o : Int × Int} {hd : List (Int × Int)} (r : VR o hd) {n : Int} (n0 : 0 ≤ n) (n1 : n.natAbs < 2 ^ 8000) : (wholeQ o hd n).natAbs < 2 ^ 12000 := by
  obtain ⟨e, b, a⟩ := wholeQ_mul r n0
  have u := r.unit
  have w0 := wholeQ_nn r n0
  have top : (markQ o hd n).1.natAbs < 2 ^ 8300 := by
    unfold markQ
    split
    · rename_i h
      rw [List.getD_eq_getElem?_getD, List.getElem?_eq_getElem
            (by omega), Option.getD_some]
      have ok := (r.oks _ (List.getElem_mem (by omega : n.toNat < hd.length))).1
      refine Nat.lt_trans (m := 2 ^ 200) (by have := ok.a; have := ok.a2; omega) (Nat.pow_lt_pow_right (by decide) (by decide))
    · have ok := r.ok
      show (o.1 + n * o.2).natAbs < _
      have h1 : (n * o.2).natAbs < 2 ^ (8000 + 200) := wide_lt n1 (r.bots o List.mem_cons_self).2
      have h2 : o.1.natAbs < 2 ^ (8000 + 200) := Nat.lt_trans (m := 2 ^ 200) (by have := ok.a; have := ok.a2; omega) (Nat.pow_lt_pow_right (by decide) (by decide))
      have h3 : (2 : Nat) ^ (8000 + 200) + 2 ^ (8000 + 200) ≤ 2 ^ 8300 := by
        rw [← Nat.two_mul, ← Nat.pow_succ']
        exact Nat.pow_le_pow_right (by decide) (by decide)
      omega
  have le : (wholeQ o hd n).natAbs ≤ (wholeQ o hd n * (markQ o hd n).2).natAbs := by
    rw [Int.natAbs_mul]
    exact Nat.le_mul_of_pos_right _ (by omega)
  refine Nat.lt_of_le_of_lt le ?_
  rw [e]
  exact Nat.lt_of_lt_of_le (wide_lt top u.2.1) (Nat.pow_le_pow_right (by decide) (by decide))
/-- counts -/
structure OkN (ns : List Int) : Prop where
  nn : ∀ n ∈ ns, 0 ≤ n ∧ n.natAbs < 2 ^ 8000
structure OkDl (dl : List Int) : Prop where
  len : dl.length ≤ 40
  ok : ∀ d ∈ dl, d.natAbs < 2 ^ 9000
def nextL (o : Int × Int) (hd : List (Int × Int)) (dl ns : List Int) : List Int := List.zipWith (fun d n => wholeQ o hd n * d) dl ns
def lastL (o : Int × Int) (hd : List (Int × Int)) (dl ns : List Int) : List Int := ((dl.zip ns).filter fun p => decide (0 < p.2)).map fun p => wholeQ o hd (p.2 - 1) * p.1
def w_next_dues : WS := (wRet (wLc [3, 4] (wZipU (wV 1) (wV 2)) (wgT 2 (wgCons (wgN 3) (wgCons (wgN 4) wgNil))) wYes (wBin LW.gMul (wMth 0 2 f_whole_mark (wV 0) (wCons (wV 4) wNil)) (wV 3))))
theorem pb_next_dues (B : Bl mg)  (M_whole_mark : Met P w K mg base 1 c "whole_mark" (spW (suR K mg c) 2 f_whole_mark))  : Bdy P w K mg base 1 "next_dues" s_next_dues ["rule", "delays", "counts", "delay", "count"] (suR K mg c) w_next_dues := fun f cdv A outer s H E hr quiet =>
      (xsOne (xsRet (xw (xf (xLc (own := [("delay", 3), ("count", 4)]) (by rfl) sc_next_dues.nd (xic (xZipU (by rfl) B.zip (xV (pv 1)) (xV (pv 2)))) (blkOk_by (own := [("delay", 3), ("count", 4)]) (N := ["rule", "delays", "counts", "delay", "count"]) (sc := defScope s_next_dues) (by decide +kernel)) (fun _ _ _ _ _ => (xgT (n := 2) (by rfl) (xgCons (xgN (pg_name (i := 3) sc_next_dues.nd rfl (Or.inl rfl))) (xgCons (xgN (pg_name (i := 4) sc_next_dues.nd rfl (Or.inl rfl))) xgNil)))) (fun _ _ _ _ _ => xPts0) (fun _ _ _ _ _ => (xBin op_mulU pMul (xw (xMth MO_whole_mark (pe_mt M_whole_mark hr (by decide) (xV (pv 0)) (xACons (xV (pv 4)) xANil)))) (xw (xV (pv 3))))) (by decide))))))
theorem pc_next_dues (B : Bl mg) (DD : OwnDef K mg "next_dues" s_next_dues)  (M_whole_mark : Met P w K mg base 1 c "whole_mark" (spW (suR K mg c) 2 f_whole_mark))  : CalG P w K mg base 2 "next_dues" (spW (suR K mg c) 3 (wFn 5 w_next_dues)) [] :=
  calG_by DD sc_next_dues rfl (fun fd f F => F.binds (fun _ _ _ _ _ _ us hl => match us, hl with | [_, _, _], _ => rfl)) (pb_next_dues B M_whole_mark)
def f_next_dues : SpF := fun ds k _ => ∃ o hd dl cd ns, ds = [.obj 0 (ruD o hd), .lst (dl.map Dt.int), cd] ∧ seqD cd = some (ns.map Dt.int) ∧ VR o hd ∧ OkDl dl ∧ OkN ns ∧ k (.lst ((nextL o hd dl ns).map Dt.int))
theorem zipped_ints (dl ns : List Int) : zipped (dl.map Dt.int) (ns.map Dt.int) = (dl.zip ns).map fun p => .tup [.int p.1, .int p.2] := by
  unfold zipped
  rw [List.zipWith_map_left, List.zipWith_map_right, List.zip, List.map_zipWith]
theorem ok_next_dues (ds k e) (ln : ds.length = 3) (h : f_next_dues ds k e) : wFn 5 w_next_dues ds k e := by
  obtain ⟨o, hd, dl, cd, ns, rfl, hc, vr, hdl, hns, hk⟩ := h
  (simp only [a_wFn, a_wFnF, a_mapS, a_map0, List.replicate, a_appS, a_app0, a_lenS, a_len0, Nat.reduceAdd, Nat.reduceSub, Nat.zero_add]; unfold w_next_dues; simp only [a_wFn, a_wSeq, a_wNx, a_wBk, a_wCt, a_wEx, a_wSet, a_wOwn, a_wAsg, a_wPar, a_wRet, a_wRetN, a_wRetF, a_wRetFO, a_wParO, a_wFnF, a_wIfS, a_wApp, a_wExt, a_wFrz, a_wAugI, a_wSetIx, a_wAugIx, a_wFor, a_lookL0, a_lookLS, a_look0, a_lookS, a_lookO0, a_lookO1, a_lookOS, a_wV, a_wO, a_wC, a_wBin, a_wUn, a_wTst, a_wTru, a_wAnd, a_wOr, a_wNot, a_wAndV, a_wOrV, a_wNotV, a_wIf, a_wCh, a_wNil, a_wCons, a_wStar, a_wTup, a_wLst, a_wCal, a_wCall, a_wCall0, a_wCallK, a_wCallB, a_wAugC, gInI_i, a_wCalK, a_wSl, a_wNo, a_wPart, a_wFld, a_wMth, a_wM0, a_wM1, a_wgN, a_wgNil, a_wgCons, a_wgT, a_wLc, a_wYes, a_itK, itK_lst, itK_tup, itK_str, seqD_lst, seqD_tup, a_wRg1, a_wRg2, a_wRg3, a_wEnumU, a_wEnumL, a_wZipU, a_wRevU, a_wComb, wipeD, a_mapS, a_map0, a_lenS, a_len0, List.replicate, a_appS, a_app0, a_set0, a_setS, Nat.reduceAdd, Nat.reduceSub, Nat.zero_add, true_and, and_true, gAdd_i, gAdd_s, gAdd_l, gAdd_t, gCat_l, gSub_i, gMul_i, gMul_l, gMul_t, gFdiv_i, gMod_i, gPow_i, gLt_i, gLe_i, gGt_i, gGe_i, gLen_l, gLen_t, gLen_s, gAbs_i, gToInt_i, gToInt_b, gToBl_i, gToBl_b, gToTup_l, gToTup_t, gToLst_l, gToLst_t, gMax2_i, gMin2_i, gNeg_i, gSl_l, gSl_t, gSl_s, gSlL_l, gRevL_l, gIsN_n, gIsN_b, gIsN_i, gIsN_s, gIsN_l, gIsN_t, gNotN_n, gNotN_b, gNotN_i, gNotN_s, gNotN_l, gNotN_t, truD, gEq_int, gNe_int, Bool.not_true, Bool.not_false])
  refine ⟨_, _, rfl, hc, ?_⟩
  rw [zipped_ints]
  have ll := hdl.len
  refine ⟨by rw [List.length_map, List.length_zip]; omega, ?_⟩
  refine lcL_map (fun d => match d with | .tup [.int d, .int n] => .int (wholeQ o hd n * d) | _ => .non) (fun x K hx hK => ?_) ?_
  · obtain ⟨p, hp, rfl⟩ := List.mem_map.mp hx
    obtain ⟨n0, n1⟩ := hns.nn p.2 (List.of_mem_zip hp).2
    have d1 := hdl.ok p.1 (List.of_mem_zip hp).1
    refine ⟨rfl, rfl, o, hd, p.2, rfl, vr, n0, n1, wide_mul (wholeQ_lt vr n0 n1) d1 (by decide) (by decide) (by decide), hK⟩
  · rw [List.map_map]
    unfold nextL at hk
    rw [List.map_zipWith] at hk
    rw [List.zip, List.map_zipWith]
    exact hk
theorem cs_next_dues (B : Bl mg) (DD : OwnDef K mg "next_dues" s_next_dues)  (M_whole_mark : Met P w K mg base 1 c "whole_mark" (spW (suR K mg c) 2 f_whole_mark))  : CalG P w K mg base 2 "next_dues" (spW (suR K mg c) 3 f_next_dues) [] :=
  (pc_next_dues B DD M_whole_mark).imp (spW_mono fun ds k e ln h => ok_next_dues ds k e ln h)
def w_last_dues : WS := (wRet (wLc [3, 4] (wZipU (wV 1) (wV 2)) (wgT 2 (wgCons (wgN 3) (wgCons (wgN 4) wgNil))) (wTst (wBin gGt (wV 4) (wC (.int 0)))) (wBin LW.gMul (wMth 0 2 f_whole_mark (wV 0) (wCons (wBin LW.gSub (wV 4) (wC (.int 1))) wNil)) (wV 3))))
theorem pb_last_dues (B : Bl mg)  (M_whole_mark : Met P w K mg base 1 c "whole_mark" (spW (suR K mg c) 2 f_whole_mark))  : Bdy P w K mg base 1 "last_dues" s_last_dues ["rule", "delays", "counts", "delay", "count"] (suR K mg c) w_last_dues := fun f cdv A outer s H E hr quiet =>
      (xsOne (xsRet (xw (xf (xLc (own := [("delay", 3), ("count", 4)]) (by rfl) sc_last_dues.nd (xic (xZipU (by rfl) B.zip (xV (pv 1)) (xV (pv 2)))) (blkOk_by (own := [("delay", 3), ("count", 4)]) (N := ["rule", "delays", "counts", "delay", "count"]) (sc := defScope s_last_dues) (by decide +kernel)) (fun _ _ _ _ _ => (xgT (n := 2) (by rfl) (xgCons (xgN (pg_name (i := 3) sc_last_dues.nd rfl (Or.inl rfl))) (xgCons (xgN (pg_name (i := 4) sc_last_dues.nd rfl (Or.inl rfl))) xgNil)))) (fun _ _ _ _ _ => (xPts1 (xTCmp op_gt pGt (xw (xV (pv 4))) (xw (xInt pe_int)) (nomark _)))) (fun _ _ _ _ _ => (xBin op_mulU pMul (xw (xMth MO_whole_mark (pe_mt M_whole_mark hr (by decide) (xV (pv 0)) (xACons (xBin op_sub pSub (xw (xV (pv 4))) (xw (xInt pe_int))) xANil)))) (xw (xV (pv 3))))) (by decide))))))
theorem pc_last_dues (B : Bl mg) (DD : OwnDef K mg "last_dues" s_last_dues)  (M_whole_mark : Met P w K mg base 1 c "whole_mark" (spW (suR K mg c) 2 f_whole_mark))  : CalG P w K mg base 2 "last_dues" (spW (suR K mg c) 3 (wFn 5 w_last_dues)) [] :=
  calG_by DD sc_last_dues rfl (fun fd f F => F.binds (fun _ _ _ _ _ _ us hl => match us, hl with | [_, _, _], _ => rfl)) (pb_last_dues B M_whole_mark)
def f_last_dues : SpF := fun ds k _ => ∃ o hd dl cd ns, ds = [.obj 0 (ruD o hd), .lst (dl.map Dt.int), cd] ∧ seqD cd = some (ns.map Dt.int) ∧ VR o hd ∧ OkDl dl ∧ OkN ns ∧ k (.lst ((lastL o hd dl ns).map Dt.int))
theorem ok_last_dues (ds k e) (ln : ds.length = 3) (h : f_last_dues ds k e) : wFn 5 w_last_dues ds k e := by
  obtain ⟨o, hd, dl, cd, ns, rfl, hc, vr, hdl, hns, hk⟩ := h
  (simp only [a_wFn, a_wFnF, a_mapS, a_map0, List.replicate, a_appS, a_app0, a_lenS, a_len0, Nat.reduceAdd, Nat.reduceSub, Nat.zero_add]; unfold w_last_dues; simp only [a_wFn, a_wSeq, a_wNx, a_wBk, a_wCt, a_wEx, a_wSet, a_wOwn, a_wAsg, a_wPar, a_wRet, a_wRetN, a_wRetF, a_wRetFO, a_wParO, a_wFnF, a_wIfS, a_wApp, a_wExt, a_wFrz, a_wAugI, a_wSetIx, a_wAugIx, a_wFor, a_lookL0, a_lookLS, a_look0, a_lookS, a_lookO0, a_lookO1, a_lookOS, a_wV, a_wO, a_wC, a_wBin, a_wUn, a_wTst, a_wTru, a_wAnd, a_wOr, a_wNot, a_wAndV, a_wOrV, a_wNotV, a_wIf, a_wCh, a_wNil, a_wCons, a_wStar, a_wTup, a_wLst, a_wCal, a_wCall, a_wCall0, a_wCallK, a_wCallB, a_wAugC, gInI_i, a_wCalK, a_wSl, a_wNo, a_wPart, a_wFld, a_wMth, a_wM0, a_wM1, a_wgN, a_wgNil, a_wgCons, a_wgT, a_wLc, a_wYes, a_itK, itK_lst, itK_tup, itK_str, seqD_lst, seqD_tup, a_wRg1, a_wRg2, a_wRg3, a_wEnumU, a_wEnumL, a_wZipU, a_wRevU, a_wComb, wipeD, a_mapS, a_map0, a_lenS, a_len0, List.replicate, a_appS, a_app0, a_set0, a_setS, Nat.reduceAdd, Nat.reduceSub, Nat.zero_add, true_and, and_true, gAdd_i, gAdd_s, gAdd_l, gAdd_t, gCat_l, gSub_i, gMul_i, gMul_l, gMul_t, gFdiv_i, gMod_i, gPow_i, gLt_i, gLe_i, gGt_i, gGe_i, gLen_l, gLen_t, gLen_s, gAbs_i, gToInt_i, gToInt_b, gToBl_i, gToBl_b, gToTup_l, gToTup_t, gToLst_l, gToLst_t, gMax2_i, gMin2_i, gNeg_i, gSl_l, gSl_t, gSl_s, gSlL_l, gRevL_l, gIsN_n, gIsN_b, gIsN_i, gIsN_s, gIsN_l, gIsN_t, gNotN_n, gNotN_b, gNotN_i, gNotN_s, gNotN_l, gNotN_t, truD, gEq_int, gNe_int, Bool.not_true, Bool.not_false])
  refine ⟨_, _, rfl, hc, ?_⟩
  rw [zipped_ints]
  have ll := hdl.len
  refine ⟨by rw [List.length_map, List.length_zip]; omega, ?_⟩
  refine lcL_filter (fun d => match d with | .tup [.int d, .int n] => decide (0 < n) | _ => false) (fun d => match d with | .tup [.int d, .int n] => .int (wholeQ o hd (n - 1) * d) | _ => .non) (fun x K hx hK => ?_) ?_
  · obtain ⟨p, hp, rfl⟩ := List.mem_map.mp hx
    obtain ⟨n0, n1⟩ := hns.nn p.2 (List.of_mem_zip hp).2
    have d1 := hdl.ok p.1 (List.of_mem_zip hp).1
    refine ⟨rfl, rfl, ?_⟩
    simp only [a_wFn, a_wSeq, a_wNx, a_wBk, a_wCt, a_wEx, a_wSet, a_wOwn, a_wAsg, a_wPar, a_wRet, a_wRetN, a_wRetF, a_wRetFO, a_wParO, a_wFnF, a_wIfS, a_wApp, a_wExt, a_wFrz, a_wAugI, a_wSetIx, a_wAugIx, a_wFor, a_lookL0, a_lookLS, a_look0, a_lookS, a_lookO0, a_lookO1, a_lookOS, a_wV, a_wO, a_wC, a_wBin, a_wUn, a_wTst, a_wTru, a_wAnd, a_wOr, a_wNot, a_wAndV, a_wOrV, a_wNotV, a_wIf, a_wCh, a_wNil, a_wCons, a_wStar, a_wTup, a_wLst, a_wCal, a_wCall, a_wCall0, a_wCallK, a_wCallB, a_wAugC, gInI_i, a_wCalK, a_wSl, a_wNo, a_wPart, a_wFld, a_wMth, a_wM0, a_wM1, a_wgN, a_wgNil, a_wgCons, a_wgT, a_wLc, a_wYes, a_itK, itK_lst, itK_tup, itK_str, seqD_lst, seqD_tup, a_wRg1, a_wRg2, a_wRg3, a_wEnumU, a_wEnumL, a_wZipU, a_wRevU, a_wComb, wipeD, a_mapS, a_map0, a_lenS, a_len0, List.replicate, a_appS, a_app0, a_set0, a_setS, Nat.reduceAdd, Nat.reduceSub, Nat.zero_add, true_and, and_true, gAdd_i, gAdd_s, gAdd_l, gAdd_t, gCat_l, gSub_i, gMul_i, gMul_l, gMul_t, gFdiv_i, gMod_i, gPow_i, gLt_i, gLe_i, gGt_i, gGe_i, gLen_l, gLen_t, gLen_s, gAbs_i, gToInt_i, gToInt_b, gToBl_i, gToBl_b, gToTup_l, gToTup_t, gToLst_l, gToLst_t, gMax2_i, gMin2_i, gNeg_i, gSl_l, gSl_t, gSl_s, gSlL_l, gRevL_l, gIsN_n, gIsN_b, gIsN_i, gIsN_s, gIsN_l, gIsN_t, gNotN_n, gNotN_b, gNotN_i, gNotN_s, gNotN_l, gNotN_t, truD, gEq_int, gNe_int, Bool.not_true, Bool.not_false]
    cases q : decide (0 < p.2) with
    | false => simp only [q] at hK ⊢; exact hK
    | true =>
      have q' := of_decide_eq_true q
      simp only [q] at hK ⊢
      have n2 : 0 ≤ p.2 - 1 := by omega
      have n3 : (p.2 - 1).natAbs < 2 ^ 8000 := by omega
      exact ⟨o, hd, p.2 - 1, rfl, vr, n2, n3, wide_mul (wholeQ_lt vr n2 n3) d1 (by decide) (by decide) (by decide), hK⟩
  · rw [List.filter_map, List.map_map]
    unfold lastL at hk
    rw [List.map_map] at hk
    exact hk
theorem cs_last_dues (B : Bl mg) (DD : OwnDef K mg "last_dues" s_last_dues)  (M_whole_mark : Met P w K mg base 1 c "whole_mark" (spW (suR K mg c) 2 f_whole_mark))  : CalG P w K mg base 2 "last_dues" (spW (suR K mg c) 3 f_last_dues) [] :=
  (pc_last_dues B DD M_whole_mark).imp (spW_mono fun ds k e ln h => ok_last_dues ds k e ln h)
end

end LW

set_option Elab.async false
set_option linter.all false
set_option maxRecDepth 100000
set_option maxHeartbeats 4000100
set_option exponentiation.threshold 20000
namespace LW
open L2 PySem.Spec PyProof.Rows PySem
/-! ### what is asked of a division, in plain data -/
structure TxC (mg : Str → Option Value) : Prop where
  g_MOST_CLAIMANTS : ∃ t, mg "MOST_CLAIMANTS" = some (.int 6 t)
/-- what isinstance asks of the class Rule -/
structure ClsI (K : PySem.W.Frag) (c : Addr) : Prop where
  ca : PySem.W.findIn K (.ref c) "__class__" = some (some (.builtin "object.__class__"))
  sp : PySem.W.specialIn K (.builtin "object.__class__") "__get__" = some (some (.builtin "getset_descriptor.__get__"))
  tk : PySem.W.takesIn K (.builtin "object.__class__") = some true
  mr : PySem.W.mroIn K c (.type "object") = some true

theorem IO_of {K : PySem.W.Frag} {mg : Str → Option Value} {c : Addr} (T : Tx K mg c) (CI : ClsI K c) : InsOk (suR K mg c) 0 "Rule" c := ⟨T.g_Rule, fun d H v h => by
  obtain ⟨_, r, o, hd, rfl, rfl, vr, R⟩ := h
  obtain ⟨dx, v0, v1, v2, v3, e, _⟩ := R.ex
  exact ⟨r, rfl, .base (.ins e T.cl CI.ca CI.sp CI.tk CI.mr)⟩⟩
/-- claims: numbers above 0, one to six -/
structure Clm (l : List Dt) (qs : List (Int × Int)) : Prop where
  num : l.map numD = qs.map some
  ne : 1 ≤ l.length
  le6 : l.length ≤ 6
  pos : ∀ q ∈ qs, 0 < q.1 ∧ q.1.natAbs < 2 ^ 200 ∧ 0 < q.2 ∧ q.2.natAbs < 2 ^ 200
theorem KnD_of {d : Dt} {q : Int × Int} (h : numD d = some q) : KnD d := by
  rcases numD_of h with ⟨i, rfl, rfl⟩ | rfl
  · rfl
  · intro d hd
    rcases List.mem_cons.mp hd
          with rfl | hd
    · rfl
    · rw [List.mem_singleton.mp hd]; rfl
theorem Clm.at_ {l : List Dt} {qs : List (Int × Int)} (h : Clm l qs) {i : Nat} {d : Dt} (e : l[i]? = some d) : KnD d ∧ uPos d = true := by
  obtain ⟨q, hq, hd⟩ := nums_at h.num e
  obtain ⟨p1, _, p2, _⟩ := h.pos q (List.mem_of_getElem? hq)
  refine ⟨KnD_of hd, ?_⟩
  unfold uPos
  rw [hd]
  simp [p1]
  omega
def invQ (q : Int × Int) : Int × Int := (q.2, q.1)
/-- how long a claimant waits for an item, in whole numbers -/
def delaysL (qs : List (Int × Int)) : List Int := wholes (qs.map invQ)
theorem Clm.inv {l : List Dt} {qs : List (Int × Int)} (h : Clm l qs) : OkP2 (qs.map invQ) := by
  have ll := nums_len h.num
  have l6 := h.le6
  refine ⟨⟨by rw [List.length_map]; omega, fun q hq => ?_⟩, fun q hq => ?_⟩
  · obtain ⟨p, hp, rfl⟩ := List.mem_map.mp hq
    exact ⟨(h.pos p hp).1, (h.pos p hp).2.1⟩
  · obtain ⟨p, hp, rfl⟩ := List.mem_map.mp hq
    exact Nat.lt_trans (h.pos p hp).2.2.2 (by decide +kernel)
theorem Clm.dl {l : List Dt} {qs : List (Int × Int)} (h : Clm l qs) : OkDl (delaysL qs) := by
  have ll := nums_len h.num
  have l6 := h.le6
  refine ⟨by unfold delaysL wholes; rw [List.length_map, List.length_map]; omega, fun d hd => ?_⟩
  unfold delaysL wholes at hd
  obtain ⟨q, hq, rfl⟩ :=
        List.mem_map.mp hd
  have u := h.inv.top q hq
  have : (lcmN (qs.map invQ) : Int).natAbs < 2 ^ 8001 := by rw [Int.natAbs_natCast]; exact h.inv.toOkP.lt
  have z : ((lcmN (qs.map invQ) : Int) / q.2).natAbs < 2 ^ 8001 := Nat.lt_of_le_of_lt (Int.natAbs_ediv_le_natAbs _ _) this
  exact Nat.lt_of_lt_of_le (wide_lt u z) (Nat.pow_le_pow_right (by decide) (by decide))
/-- the condition of the document: no claimant had rather had the last item of another one -/
def FairQ (o : Int × Int) (hd : List (Int × Int)) (qs : List (Int × Int)) (ns : List Int) : Prop :=
  ∀ (i j : Nat) (ci cj : Int × Int) (ni nj : Int), qs[i]? = some ci → qs[j]? = some cj → ns[i]? = some ni → ns[j]? = some nj → 0 < ni →
    (markQ o hd (ni - 1)).1 * ci.2 * ((markQ o hd nj).2 * cj.1) ≤ (markQ o hd nj).1 * cj.2 * ((markQ o hd (ni - 1)).2 * ci.1)
theorem delay_at {qs : List (Int × Int)} (pos : ∀ q ∈ qs, 0 < q.1) {i : Nat} {q : Int × Int} (h : qs[i]? = some q) : ∃ d, (delaysL qs)[i]? = some d ∧ d * q.1 = q.2 * (lcmN (qs.map invQ) : Int) := by
  unfold delaysL wholes
  refine ⟨_, by rw [List.getElem?_map, List.getElem?_map, h]; rfl, ?_⟩
  have hm := List.mem_of_getElem? h
  have p := pos q hm
  show q.2 * ((lcmN (qs.map invQ) : Int) / q.1) * q.1 = _
  have := lcmN_dvd _ (qs.map invQ) rfl (invQ q) (List.mem_map.mpr ⟨q, hm, rfl⟩)
  rw [Int.mul_assoc, Int.ediv_mul_cancel (Int.natAbs_dvd_natAbs.mp (by rw [Int.natAbs_natCast]; exact this))]
/-- two dues, compared -/
theorem due_le {o : Int × Int} {hd : List (Int × Int)} (vr : VR o hd) {m n d e L : Int} {p q : Int × Int} (m0 : 0 ≤ m) (n0 : 0 ≤ n) (p0 : 0 < p.1) (q0 : 0 < q.1) (L0 : 0 < L) (hd1 : d * p.1 = p.2 * L) (he : e * q.1 = q.2 * L) :
    wholeQ o hd m * d ≤ wholeQ o hd n * e ↔ (markQ o hd m).1 * p.2 * ((markQ o hd n).2 * q.1) ≤ (markQ o hd n).1 * q.2 * ((markQ o hd m).2 * p.1) := by
  obtain ⟨e1, b1, a1⟩ := wholeQ_mul vr m0
  obtain ⟨e2, b2, a2⟩ := wholeQ_mul vr n0
  have u := vr.unit.1
  have f1 : 0 < (markQ o hd m).2 * p.1 * ((markQ o hd n).2 * q.1) := Int.mul_pos (Int.mul_pos b1 p0) (Int.mul_pos b2 q0)
  have f2 : 0 < unitQ o hd * L := Int.mul_pos u L0
  have k1 : wholeQ o hd m * d * ((markQ o hd m).2 * p.1 * ((markQ o hd n).2 * q.1)) = (markQ o hd m).1 * p.2 * ((markQ o hd n).2 * q.1) * (unitQ o hd * L) := by
    calc _ = (wholeQ o hd m * (markQ o hd m).2) * (d * p.1) * ((markQ o hd n).2 * q.1) := by ac_rfl
      _ = _ := by rw [e1, hd1]; try ac_rfl
  have k2 : wholeQ o hd n * e * ((markQ o hd m).2 * p.1 * ((markQ o hd n).2 * q.1)) = (markQ o hd n).1 * q.2 * ((markQ o hd m).2 * p.1) * (unitQ o hd * L) := by
    calc _ = (wholeQ o hd n * (markQ o hd n).2) * (e * q.1) * ((markQ o hd m).2 * p.1) := by ac_rfl
      _ = _ := by rw [e2, he]; try ac_rfl
  constructor
  · intro h
    have := Int.mul_le_mul_of_nonneg_right h (Int.le_of_lt f1)
    rw [k1, k2] at this
    exact Int.le_of_mul_le_mul_right this f2
  · intro h
    have := Int.mul_le_mul_of_nonneg_right h (Int.le_of_lt f2)
    rw [← k1, ← k2] at this
    exact Int.le_of_mul_le_mul_right this f1
theorem last_mem {o : Int × Int} {hd : List (Int × Int)} {dl ns : List Int} {x : Int} : x ∈ lastL o hd dl ns ↔ ∃ (i : Nat) (d n : Int), dl[i]? = some d ∧ ns[i]? = some n ∧ 0 < n ∧ x = wholeQ o hd (n - 1) * d := by
  unfold lastL
  rw [List.mem_map]
  constructor
  · rintro ⟨p, hp, rfl⟩
    obtain ⟨h1, h2⟩ := List.mem_filter.mp hp
    obtain ⟨i, hi⟩ := List.getElem?_of_mem h1
    rw [List.getElem?_zip_eq_some] at hi
    exact ⟨i, _, _, hi.1, hi.2, of_decide_eq_true h2, rfl⟩
  · rintro ⟨i, d, n, h1, h2, h3, rfl⟩
    exact ⟨(d, n), List.mem_filter.mpr ⟨List.mem_of_getElem? (i := i) (List.getElem?_zip_eq_some.mpr ⟨h1, h2⟩), decide_eq_true h3⟩, rfl⟩
theorem next_mem {o : Int × Int} {hd : List (Int × Int)} {dl ns : List Int} {x : Int} : x ∈ nextL o hd dl ns ↔ ∃ (i : Nat) (d n : Int), dl[i]? = some d ∧ ns[i]? = some n ∧ x = wholeQ o hd n * d := by
  unfold nextL
  constructor
  · intro h
    obtain ⟨i, hi⟩ := List.getElem?_of_mem h
    rw [List.getElem?_zipWith] at hi
    cases h1 : dl[i]? with
    | none => rw [h1] at hi; cases hi
    | some d =>
      cases h2 : ns[i]? with
      | none => rw [h1, h2] at hi; cases hi
      | some n => rw [h1, h2] at hi; cases hi; exact ⟨i, d, n, h1, h2, rfl⟩
  · rintro ⟨i, d, n, h1, h2, rfl⟩
    exact List.mem_of_getElem? (i := i) (by rw [List.getElem?_zipWith, h1, h2])
/-- all last dues are at most all next ones: fair -/
theorem fair_iff {o : Int × Int} {hd : List (Int × Int)} {l : List Dt} {qs : List (Int × Int)} {ns : List Int} (vr : VR o hd) (cl : Clm l qs) (hns : OkN ns) :
    (∀ x ∈ lastL o hd (delaysL qs) ns, ∀ y ∈ nextL o hd (delaysL qs) ns, x ≤ y) ↔ FairQ o hd qs ns := by
  have pos : ∀ q ∈ qs, 0 < q.1 := fun q hq => (cl.pos q hq).1
  have L0 : (0 : Int) < (lcmN (qs.map invQ) : Int) := by
    have := lcmN_pos _ (qs.map invQ) rfl fun q hq => (cl.inv.pos q hq).1
    omega
  constructor
  · intro h i j ci cj ni nj h1 h2 h3 h4 h0
    obtain ⟨d, e1, k1⟩ := delay_at pos h1
    obtain ⟨e, e2, k2⟩ := delay_at pos h2
    have n1 := (hns.nn nj (List.mem_of_getElem? h4)).1
    exact (due_le vr (by omega) n1 (pos _ (List.mem_of_getElem? h1)) (pos _ (List.mem_of_getElem? h2)) L0 k1 k2).mp (h _ (last_mem.mpr ⟨i, d, ni, e1, h3, h0, rfl⟩) _ (next_mem.mpr ⟨j, e, nj, e2, h4, rfl⟩))
  · intro h x hx y hy
    obtain ⟨i, d, ni, e1, h3, h0, rfl⟩ := last_mem.mp hx
    obtain ⟨j, e, nj, e2, h4, rfl⟩ := next_mem.mp hy
    have get : ∀ (i : Nat) (d : Int), (delaysL qs)[i]? = some d → ∃ q, qs[i]? = some q := fun i d e => by
      unfold delaysL wholes at e
      obtain ⟨x, hx, _⟩ := some_map e
      obtain ⟨q, hq, _⟩ := some_map hx
      exact ⟨q, hq⟩
    obtain ⟨ci, h1⟩ := get i d e1
    obtain ⟨cj, h2⟩ := get j e e2
    obtain ⟨d', e1', k1⟩ := delay_at pos h1
    cases e1.symm.trans e1'
    obtain ⟨e', e2', k2⟩ := delay_at pos h2
    cases e2.symm.trans e2'
    have n1 := (hns.nn nj (List.mem_of_getElem? h4)).1
    exact (due_le vr (by omega) n1 (pos _ (List.mem_of_getElem? h1)) (pos _ (List.mem_of_getElem? h2)) L0 k1 k2).mpr (h i j ci cj ni nj h1 h2 h3 h4 h0)
section
variable {P : Program} {w : World} {K : PySem.W.Frag} {mg : Str → Option Value} {base : Heap} {c : Addr}
def w_check_rule : WS := (wIfS (wNot (wTst (wCal (gIsC 0 "Rule") (wCons (wV 0) (wCons (wC (.fn "Rule")) wNil))))) wNev wNx)
theorem pb_check_rule (B : Bl mg)  (g_Rule : mg "Rule" = some (.ref c)) (IO_Rule : InsOk (suR K mg c) 0 "Rule" c) : Bdy P w K mg base 0 "check_rule" s_check_rule ["value"] (suR K mg c) w_check_rule := fun f cdv A outer s H E hr quiet =>
      (xsOne (xsIf (xTNot (xTV (xCB (pe_callB call_isi (by rfl) B.isinstance (by decide +kernel) (xWCons (xw (xV (pv 0))) (xWCons (xw (xFn (pe_glob (v := .ref _) (by rfl) (g_Rule) rfl) g_Rule rfl)) xWNil))) (pIsC IO_Rule)))) (xsOne xsNev) xsNil))
theorem pc_check_rule (B : Bl mg) (DD : OwnDef K mg "check_rule" s_check_rule)  (g_Rule : mg "Rule" = some (.ref c)) (IO_Rule : InsOk (suR K mg c) 0 "Rule" c) : CalG P w K mg base 1 "check_rule" (spW (suR K mg c) 1 (wFn 1 w_check_rule)) [] :=
  calG_by DD sc_check_rule rfl (fun fd f F => F.binds (fun _ _ _ _ _ _ us hl => match us, hl with | [_], _ => rfl)) (pb_check_rule B g_Rule IO_Rule)
def f_check_rule : SpF := fun ds k _ => ∃ d, ds = [.obj 0 d] ∧ k .non
theorem ok_check_rule (ds k e) (ln : ds.length = 1) (h : f_check_rule ds k e) : wFn 1 w_check_rule ds k e := by
  obtain ⟨d, rfl, hk⟩ := h
  (simp only [a_wFn, a_wFnF, a_mapS, a_map0, List.replicate, a_appS, a_app0, a_lenS, a_len0, Nat.reduceAdd, Nat.reduceSub, Nat.zero_add]; unfold w_check_rule; simp only [a_wFn, a_wSeq, a_wNx, a_wBk, a_wCt, a_wEx, a_wSet, a_wOwn, a_wAsg, a_wPar, a_wRet, a_wRetN, a_wRetF, a_wRetFO, a_wParO, a_wFnF, a_wIfS, a_wApp, a_wExt, a_wFrz, a_wAugI, a_wSetIx, a_wAugIx, a_wFor, a_lookL0, a_lookLS, a_look0, a_lookS, a_lookO0, a_lookO1, a_lookOS, a_wV, a_wO, a_wC, a_wBin, a_wUn, a_wTst, a_wTru, a_wAnd, a_wOr, a_wNot, a_wAndV, a_wOrV, a_wNotV, a_wIf, a_wCh, a_wNil, a_wCons, a_wStar, a_wTup, a_wLst, a_wCal, a_wCall, a_wCall0, a_wCallK, a_wCallB, a_wAugC, gInI_i, a_wCalK, a_wSl, a_wNo, a_wPart, a_wFld, a_wMth, a_wM0, a_wM1, a_wgN, a_wgNil, a_wgCons, a_wgT, a_wLc, a_wYes, a_itK, itK_lst, itK_tup, itK_str, seqD_lst, seqD_tup, a_wRg1, a_wRg2, a_wRg3, a_wEnumU, a_wEnumL, a_wZipU, a_wRevU, a_wComb, wipeD, a_mapS, a_map0, a_lenS, a_len0, List.replicate, a_appS, a_app0, a_set0, a_setS, Nat.reduceAdd, Nat.reduceSub, Nat.zero_add, true_and, and_true, gAdd_i, gAdd_s, gAdd_l, gAdd_t, gCat_l, gSub_i, gMul_i, gMul_l, gMul_t, gFdiv_i, gMod_i, gPow_i, gLt_i, gLe_i, gGt_i, gGe_i, gLen_l, gLen_t, gLen_s, gAbs_i, gToInt_i, gToInt_b, gToBl_i, gToBl_b, gToTup_l, gToTup_t, gToLst_l, gToLst_t, gMax2_i, gMin2_i, gNeg_i, gSl_l, gSl_t, gSl_s, gSlL_l, gRevL_l, gIsN_n, gIsN_b, gIsN_i, gIsN_s, gIsN_l, gIsN_t, gNotN_n, gNotN_b, gNotN_i, gNotN_s, gNotN_l, gNotN_t, truD, gEq_int, gNe_int, Bool.not_true, Bool.not_false])
  exact ⟨rfl, rfl, hk⟩
theorem cs_check_rule (B : Bl mg) (DD : OwnDef K mg "check_rule" s_check_rule)  (g_Rule : mg "Rule" = some (.ref c)) (IO_Rule : InsOk (suR K mg c) 0 "Rule" c) : CalG P w K mg base 1 "check_rule" (spW (suR K mg c) 1 f_check_rule) [] :=
  (pc_check_rule B DD g_Rule IO_Rule).imp (spW_mono fun ds k e ln h => ok_check_rule ds k e ln h)
def w_check_claims : WS := (wSeq (wIfS (wOr (wNot (wTst (wCal gIsi (wCons (wV 0) (wCons (wC (.ty "tuple")) wNil))))) (wNot (wTst (wCh gLe gLe (wC (.int 1)) (wCal gLen (wCons (wV 0) wNil)) (wC (.int 6)))))) wNev wNx)
      (wFor (wEnumU (wV 0)) (wgT 2 (wgCons (wgN 1) (wgCons (wgN 2) wgNil)))
      (wIfS (wNot (wTst (wCall0 1 f_is_positive (wCons (wV 2) wNil)))) wNev wNx)))
theorem pb_check_claims (B : Bl mg) (C_is_positive : CalG P w K mg base 3 "is_positive" (spW (suR K mg c) 1 f_is_positive) []) (TC : TxC mg) : Bdy P w K mg base 3 "check_claims" s_check_claims ["value", "index", "claim"] (suR K mg c) w_check_claims := fun f cdv A outer s H E hr quiet =>
      (xsCons (xsIf (PW.pt (xWOr (xTNot (xTV (xCB (pe_callB call_isi (by rfl) B.isinstance (by decide +kernel) (xWCons (xw (xV (pv 0))) (xWCons (xw (xTy (pe_bltn (v := .ty "tuple") (by rfl) B.tuple (by decide +kernel) rfl))) xWNil))) pIsi))) (xWOr1 (xTNot (xTCh op_le op_le pLe pLe (xw (xInt pe_int)) (xw (xCB (pe_callB call_len (by rfl) B.len (by decide +kernel) (xWCons (xw (xV (pv 0))) xWNil)) pLen)) (xw (xInt (i := 6) (pe_gint (by rfl) TC.g_MOST_CLAIMANTS)))))))) (xsOne xsNev) xsNil)
      (xsOne (xsFor PassesOwn.never (by rfl) (xEnum (by rfl) B.enumerate (xV (pv 0))) (xgT (n := 2) (by rfl) (xgCons (xgN (pg_name (i := 1) sc_check_claims.nd rfl (Or.inl rfl))) (xgCons (xgN (pg_name (i := 2) sc_check_claims.nd rfl (Or.inl rfl))) xgNil)))
      (xsOne (xsIf (xTNot (xTV (xCall0 (pe_cG quiet C_is_positive hr (by decide) (by rfl) (xACons (xV (pv 2)) xANil))))) (xsOne xsNev) xsNil)))))
theorem pc_check_claims (B : Bl mg) (DD : OwnDef K mg "check_claims" s_check_claims) (C_is_positive : CalG P w K mg base 3 "is_positive" (spW (suR K mg c) 1 f_is_positive) []) (TC : TxC mg) : CalG P w K mg base 4 "check_claims" (spW (suR K mg c) 1 (wFn 3 w_check_claims)) [] :=
  calG_by DD sc_check_claims rfl (fun fd f F => F.binds (fun _ _ _ _ _ _ us hl => match us, hl with | [_], _ => rfl)) (pb_check_claims B C_is_positive TC)
def f_check_claims : SpF := fun ds k _ => ∃ l qs, ds = [.tup l] ∧ Clm l qs ∧ k .non
theorem ok_check_claims (ds k e) (ln : ds.length = 1) (h : f_check_claims ds k e) : wFn 3 w_check_claims ds k e := by
  obtain ⟨l, qs, rfl, cl, hk⟩ := h
  have l1 := cl.ne
  have l6 := cl.le6
  (simp only [a_wFn, a_wFnF, a_mapS, a_map0, List.replicate, a_appS, a_app0, a_lenS, a_len0, Nat.reduceAdd, Nat.reduceSub, Nat.zero_add]; unfold w_check_claims; simp only [a_wFn, a_wSeq, a_wNx, a_wBk, a_wCt, a_wEx, a_wSet, a_wOwn, a_wAsg, a_wPar, a_wRet, a_wRetN, a_wRetF, a_wRetFO, a_wParO, a_wFnF, a_wIfS, a_wApp, a_wExt, a_wFrz, a_wAugI, a_wSetIx, a_wAugIx, a_wFor, a_lookL0, a_lookLS, a_look0, a_lookS, a_lookO0, a_lookO1, a_lookOS, a_wV, a_wO, a_wC, a_wBin, a_wUn, a_wTst, a_wTru, a_wAnd, a_wOr, a_wNot, a_wAndV, a_wOrV, a_wNotV, a_wIf, a_wCh, a_wNil, a_wCons, a_wStar, a_wTup, a_wLst, a_wCal, a_wCall, a_wCall0, a_wCallK, a_wCallB, a_wAugC, gInI_i, a_wCalK, a_wSl, a_wNo, a_wPart, a_wFld, a_wMth, a_wM0, a_wM1, a_wgN, a_wgNil, a_wgCons, a_wgT, a_wLc, a_wYes, a_itK, itK_lst, itK_tup, itK_str, seqD_lst, seqD_tup, a_wRg1, a_wRg2, a_wRg3, a_wEnumU, a_wEnumL, a_wZipU, a_wRevU, a_wComb, wipeD, a_mapS, a_map0, a_lenS, a_len0, List.replicate, a_appS, a_app0, a_set0, a_setS, Nat.reduceAdd, Nat.reduceSub, Nat.zero_add, true_and, and_true, gAdd_i, gAdd_s, gAdd_l, gAdd_t, gCat_l, gSub_i, gMul_i, gMul_l, gMul_t, gFdiv_i, gMod_i, gPow_i, gLt_i, gLe_i, gGt_i, gGe_i, gLen_l, gLen_t, gLen_s, gAbs_i, gToInt_i, gToInt_b, gToBl_i, gToBl_b, gToTup_l, gToTup_t, gToLst_l, gToLst_t, gMax2_i, gMin2_i, gNeg_i, gSl_l, gSl_t, gSl_s, gSlL_l, gRevL_l, gIsN_n, gIsN_b, gIsN_i, gIsN_s, gIsN_l, gIsN_t, gNotN_n, gNotN_b, gNotN_i, gNotN_s, gNotN_l, gNotN_t, truD, gEq_int, gNe_int, Bool.not_true, Bool.not_false])
  rw [gIsi_of (t := "tuple") (b := true) rfl (by decide +kernel)]
  simp only [a_wFn, a_wSeq, a_wNx, a_wBk, a_wCt, a_wEx, a_wSet, a_wOwn, a_wAsg, a_wPar, a_wRet, a_wRetN, a_wRetF, a_wRetFO, a_wParO, a_wFnF, a_wIfS, a_wApp, a_wExt, a_wFrz, a_wAugI, a_wSetIx, a_wAugIx, a_wFor, a_lookL0, a_lookLS, a_look0, a_lookS, a_lookO0, a_lookO1, a_lookOS, a_wV, a_wO, a_wC, a_wBin, a_wUn, a_wTst, a_wTru, a_wAnd, a_wOr, a_wNot, a_wAndV, a_wOrV, a_wNotV, a_wIf, a_wCh, a_wNil, a_wCons, a_wStar, a_wTup, a_wLst, a_wCal, a_wCall, a_wCall0, a_wCallK, a_wCallB, a_wAugC, gInI_i, a_wCalK, a_wSl, a_wNo, a_wPart, a_wFld, a_wMth, a_wM0, a_wM1, a_wgN, a_wgNil, a_wgCons, a_wgT, a_wLc, a_wYes, a_itK, itK_lst, itK_tup, itK_str, seqD_lst, seqD_tup, a_wRg1, a_wRg2, a_wRg3, a_wEnumU, a_wEnumL, a_wZipU, a_wRevU, a_wComb, wipeD, a_mapS, a_map0, a_lenS, a_len0, List.replicate, a_appS, a_app0, a_set0, a_setS, Nat.reduceAdd, Nat.reduceSub, Nat.zero_add, true_and, and_true, gAdd_i, gAdd_s, gAdd_l, gAdd_t, gCat_l, gSub_i, gMul_i, gMul_l, gMul_t, gFdiv_i, gMod_i, gPow_i, gLt_i, gLe_i, gGt_i, gGe_i, gLen_l, gLen_t, gLen_s, gAbs_i, gToInt_i, gToInt_b, gToBl_i, gToBl_b, gToTup_l, gToTup_t, gToLst_l, gToLst_t, gMax2_i, gMin2_i, gNeg_i, gSl_l, gSl_t, gSl_s, gSlL_l, gRevL_l, gIsN_n, gIsN_b, gIsN_i, gIsN_s, gIsN_l, gIsN_t, gNotN_n, gNotN_b, gNotN_i, gNotN_s, gNotN_l, gNotN_t, truD, gEq_int, gNe_int, Bool.not_true, Bool.not_false]
  rw [decide_eq_true (show (1 : Int) ≤ (l.length : Int) by omega), decide_eq_true (show (l.length : Int) ≤ 6 by omega)]
  simp only [a_wFn, a_wSeq, a_wNx, a_wBk, a_wCt, a_wEx, a_wSet, a_wOwn, a_wAsg, a_wPar, a_wRet, a_wRetN, a_wRetF, a_wRetFO, a_wParO, a_wFnF, a_wIfS, a_wApp, a_wExt, a_wFrz, a_wAugI, a_wSetIx, a_wAugIx, a_wFor, a_lookL0, a_lookLS, a_look0, a_lookS, a_lookO0, a_lookO1, a_lookOS, a_wV, a_wO, a_wC, a_wBin, a_wUn, a_wTst, a_wTru, a_wAnd, a_wOr, a_wNot, a_wAndV, a_wOrV, a_wNotV, a_wIf, a_wCh, a_wNil, a_wCons, a_wStar, a_wTup, a_wLst, a_wCal, a_wCall, a_wCall0, a_wCallK, a_wCallB, a_wAugC, gInI_i, a_wCalK, a_wSl, a_wNo, a_wPart, a_wFld, a_wMth, a_wM0, a_wM1, a_wgN, a_wgNil, a_wgCons, a_wgT, a_wLc, a_wYes, a_itK, itK_lst, itK_tup, itK_str, seqD_lst, seqD_tup, a_wRg1, a_wRg2, a_wRg3, a_wEnumU, a_wEnumL, a_wZipU, a_wRevU, a_wComb, wipeD, a_mapS, a_map0, a_lenS, a_len0, List.replicate, a_appS, a_app0, a_set0, a_setS, Nat.reduceAdd, Nat.reduceSub, Nat.zero_add, true_and, and_true, gAdd_i, gAdd_s, gAdd_l, gAdd_t, gCat_l, gSub_i, gMul_i, gMul_l, gMul_t, gFdiv_i, gMod_i, gPow_i, gLt_i, gLe_i, gGt_i, gGe_i, gLen_l, gLen_t, gLen_s, gAbs_i, gToInt_i, gToInt_b, gToBl_i, gToBl_b, gToTup_l, gToTup_t, gToLst_l, gToLst_t, gMax2_i, gMin2_i, gNeg_i, gSl_l, gSl_t, gSl_s, gSlL_l, gRevL_l, gIsN_n, gIsN_b, gIsN_i, gIsN_s, gIsN_l, gIsN_t, gNotN_n, gNotN_b, gNotN_i, gNotN_s, gNotN_l, gNotN_t, truD, gEq_int, gNe_int, Bool.not_true, Bool.not_false]
  refine ⟨l, rfl, ?_⟩
  refine forL_by (fun i δ => ∃ a b, δ = [some (.val (.tup l)), a, b]) ⟨_, _, rfl⟩ (fun i d δ K hd hI hK => ?_) fun δ hI => ?_
  · obtain ⟨a, b, rfl⟩ := hI
    obtain ⟨x, hx, rfl⟩ := num_of hd
    obtain ⟨kn, up⟩ := cl.at_ hx
    simp only [a_wFn, a_wSeq, a_wNx, a_wBk, a_wCt, a_wEx, a_wSet, a_wOwn, a_wAsg, a_wPar, a_wRet, a_wRetN, a_wRetF, a_wRetFO, a_wParO, a_wFnF, a_wIfS, a_wApp, a_wExt, a_wFrz, a_wAugI, a_wSetIx, a_wAugIx, a_wFor, a_lookL0, a_lookLS, a_look0, a_lookS, a_lookO0, a_lookO1, a_lookOS, a_wV, a_wO, a_wC, a_wBin, a_wUn, a_wTst, a_wTru, a_wAnd, a_wOr, a_wNot, a_wAndV, a_wOrV, a_wNotV, a_wIf, a_wCh, a_wNil, a_wCons, a_wStar, a_wTup, a_wLst, a_wCal, a_wCall, a_wCall0, a_wCallK, a_wCallB, a_wAugC, gInI_i, a_wCalK, a_wSl, a_wNo, a_wPart, a_wFld, a_wMth, a_wM0, a_wM1, a_wgN, a_wgNil, a_wgCons, a_wgT, a_wLc, a_wYes, a_itK, itK_lst, itK_tup, itK_str, seqD_lst, seqD_tup, a_wRg1, a_wRg2, a_wRg3, a_wEnumU, a_wEnumL, a_wZipU, a_wRevU, a_wComb, wipeD, a_mapS, a_map0, a_lenS, a_len0, List.replicate, a_appS, a_app0, a_set0, a_setS, Nat.reduceAdd, Nat.reduceSub, Nat.zero_add, true_and, and_true, gAdd_i, gAdd_s, gAdd_l, gAdd_t, gCat_l, gSub_i, gMul_i, gMul_l, gMul_t, gFdiv_i, gMod_i, gPow_i, gLt_i, gLe_i, gGt_i, gGe_i, gLen_l, gLen_t, gLen_s, gAbs_i, gToInt_i, gToInt_b, gToBl_i, gToBl_b, gToTup_l, gToTup_t, gToLst_l, gToLst_t, gMax2_i, gMin2_i, gNeg_i, gSl_l, gSl_t, gSl_s, gSlL_l, gRevL_l, gIsN_n, gIsN_b, gIsN_i, gIsN_s, gIsN_l, gIsN_t, gNotN_n, gNotN_b, gNotN_i, gNotN_s, gNotN_l, gNotN_t, truD, gEq_int, gNe_int, Bool.not_true, Bool.not_false]
    refine ⟨x, rfl, kn, ?_⟩
    rw [up]
    exact hK _ ⟨_, _, rfl⟩
  · exact hk
theorem cs_check_claims (B : Bl mg) (DD : OwnDef K mg "check_claims" s_check_claims) (C_is_positive : CalG P w K mg base 3 "is_positive" (spW (suR K mg c) 1 f_is_positive) []) (TC : TxC mg) : CalG P w K mg base 4 "check_claims" (spW (suR K mg c) 1 f_check_claims) [] :=
  (pc_check_claims B DD C_is_positive TC).imp (spW_mono fun ds k e ln h => ok_check_claims ds k e ln h)
def w_check_division : WS := (wSeq (wIfS (wOr (wNot (wTst (wCal gIsi (wCons (wV 0) (wCons (wC (.ty "tuple")) wNil))))) (wTst (wBin gNe (wCal gLen (wCons (wV 0) wNil)) (wV 1)))) wNev wNx)
      (wFor (wEnumU (wV 0)) (wgT 2 (wgCons (wgN 2) (wgCons (wgN 3) wgNil)))
      (wIfS (wNot (wTst (wCall0 1 f_is_count (wCons (wV 3) wNil)))) wNev wNx)))
theorem pb_check_division (B : Bl mg) (C_is_count : CalG P w K mg base 2 "is_count" (spW (suR K mg c) 1 f_is_count) [])  : Bdy P w K mg base 2 "check_division" s_check_division ["value", "claimants", "index", "count"] (suR K mg c) w_check_division := fun f cdv A outer s H E hr quiet =>
      (xsCons (xsIf (PW.pt (xWOr (xTNot (xTV (xCB (pe_callB call_isi (by rfl) B.isinstance (by decide +kernel) (xWCons (xw (xV (pv 0))) (xWCons (xw (xTy (pe_bltn (v := .ty "tuple") (by rfl) B.tuple (by decide +kernel) rfl))) xWNil))) pIsi))) (xWOr1 (xTCmp (op_neD hr.units) pNe (xw (xCB (pe_callB call_len (by rfl) B.len (by decide +kernel) (xWCons (xw (xV (pv 0))) xWNil)) pLen)) (xw (xV (pv 1))) (nomark _))))) (xsOne xsNev) xsNil)
      (xsOne (xsFor PassesOwn.never (by rfl) (xEnum (by rfl) B.enumerate (xV (pv 0))) (xgT (n := 2) (by rfl) (xgCons (xgN (pg_name (i := 2) sc_check_division.nd rfl (Or.inl rfl))) (xgCons (xgN (pg_name (i := 3) sc_check_division.nd rfl (Or.inl rfl))) xgNil)))
      (xsOne (xsIf (xTNot (xTV (xCall0 (pe_cG quiet C_is_count hr (by decide) (by rfl) (xACons (xV (pv 3)) xANil))))) (xsOne xsNev) xsNil)))))
theorem pc_check_division (B : Bl mg) (DD : OwnDef K mg "check_division" s_check_division) (C_is_count : CalG P w K mg base 2 "is_count" (spW (suR K mg c) 1 f_is_count) [])  : CalG P w K mg base 3 "check_division" (spW (suR K mg c) 2 (wFn 4 w_check_division)) [] :=
  calG_by DD sc_check_division rfl (fun fd f F => F.binds (fun _ _ _ _ _ _ us hl => match us, hl with | [_, _], _ => rfl)) (pb_check_division B C_is_count)
def f_check_division : SpF := fun ds k _ => ∃ ns : List Int, ds = [.tup (ns.map Dt.int), .int ns.length] ∧ OkN ns ∧ k .non
theorem ok_check_division (ds k e) (ln : ds.length = 2) (h : f_check_division ds k e) : wFn 4 w_check_division ds k e := by
  obtain ⟨ns, rfl, hns, hk⟩ := h
  (simp only [a_wFn, a_wFnF, a_mapS, a_map0, List.replicate, a_appS, a_app0, a_lenS, a_len0, Nat.reduceAdd, Nat.reduceSub, Nat.zero_add]; unfold w_check_division; simp only [a_wFn, a_wSeq, a_wNx, a_wBk, a_wCt, a_wEx, a_wSet, a_wOwn, a_wAsg, a_wPar, a_wRet, a_wRetN, a_wRetF, a_wRetFO, a_wParO, a_wFnF, a_wIfS, a_wApp, a_wExt, a_wFrz, a_wAugI, a_wSetIx, a_wAugIx, a_wFor, a_lookL0, a_lookLS, a_look0, a_lookS, a_lookO0, a_lookO1, a_lookOS, a_wV, a_wO, a_wC, a_wBin, a_wUn, a_wTst, a_wTru, a_wAnd, a_wOr, a_wNot, a_wAndV, a_wOrV, a_wNotV, a_wIf, a_wCh, a_wNil, a_wCons, a_wStar, a_wTup, a_wLst, a_wCal, a_wCall, a_wCall0, a_wCallK, a_wCallB, a_wAugC, gInI_i, a_wCalK, a_wSl, a_wNo, a_wPart, a_wFld, a_wMth, a_wM0, a_wM1, a_wgN, a_wgNil, a_wgCons, a_wgT, a_wLc, a_wYes, a_itK, itK_lst, itK_tup, itK_str, seqD_lst, seqD_tup, a_wRg1, a_wRg2, a_wRg3, a_wEnumU, a_wEnumL, a_wZipU, a_wRevU, a_wComb, wipeD, a_mapS, a_map0, a_lenS, a_len0, List.replicate, a_appS, a_app0, a_set0, a_setS, Nat.reduceAdd, Nat.reduceSub, Nat.zero_add, true_and, and_true, gAdd_i, gAdd_s, gAdd_l, gAdd_t, gCat_l, gSub_i, gMul_i, gMul_l, gMul_t, gFdiv_i, gMod_i, gPow_i, gLt_i, gLe_i, gGt_i, gGe_i, gLen_l, gLen_t, gLen_s, gAbs_i, gToInt_i, gToInt_b, gToBl_i, gToBl_b, gToTup_l, gToTup_t, gToLst_l, gToLst_t, gMax2_i, gMin2_i, gNeg_i, gSl_l, gSl_t, gSl_s, gSlL_l, gRevL_l, gIsN_n, gIsN_b, gIsN_i, gIsN_s, gIsN_l, gIsN_t, gNotN_n, gNotN_b, gNotN_i, gNotN_s, gNotN_l, gNotN_t, truD, gEq_int, gNe_int, Bool.not_true, Bool.not_false])
  rw [gIsi_of (t := "tuple") (b := true) rfl (by decide +kernel)]
  simp only [a_wFn, a_wSeq, a_wNx, a_wBk, a_wCt, a_wEx, a_wSet, a_wOwn, a_wAsg, a_wPar, a_wRet, a_wRetN, a_wRetF, a_wRetFO, a_wParO, a_wFnF, a_wIfS, a_wApp, a_wExt, a_wFrz, a_wAugI, a_wSetIx, a_wAugIx, a_wFor, a_lookL0, a_lookLS, a_look0, a_lookS, a_lookO0, a_lookO1, a_lookOS, a_wV, a_wO, a_wC, a_wBin, a_wUn, a_wTst, a_wTru, a_wAnd, a_wOr, a_wNot, a_wAndV, a_wOrV, a_wNotV, a_wIf, a_wCh, a_wNil, a_wCons, a_wStar, a_wTup, a_wLst, a_wCal, a_wCall, a_wCall0, a_wCallK, a_wCallB, a_wAugC, gInI_i, a_wCalK, a_wSl, a_wNo, a_wPart, a_wFld, a_wMth, a_wM0, a_wM1, a_wgN, a_wgNil, a_wgCons, a_wgT, a_wLc, a_wYes, a_itK, itK_lst, itK_tup, itK_str, seqD_lst, seqD_tup, a_wRg1, a_wRg2, a_wRg3, a_wEnumU, a_wEnumL, a_wZipU, a_wRevU, a_wComb, wipeD, a_mapS, a_map0, a_lenS, a_len0, List.replicate, a_appS, a_app0, a_set0, a_setS, Nat.reduceAdd, Nat.reduceSub, Nat.zero_add, true_and, and_true, gAdd_i, gAdd_s, gAdd_l, gAdd_t, gCat_l, gSub_i, gMul_i, gMul_l, gMul_t, gFdiv_i, gMod_i, gPow_i, gLt_i, gLe_i, gGt_i, gGe_i, gLen_l, gLen_t, gLen_s, gAbs_i, gToInt_i, gToInt_b, gToBl_i, gToBl_b, gToTup_l, gToTup_t, gToLst_l, gToLst_t, gMax2_i, gMin2_i, gNeg_i, gSl_l, gSl_t, gSl_s, gSlL_l, gRevL_l, gIsN_n, gIsN_b, gIsN_i, gIsN_s, gIsN_l, gIsN_t, gNotN_n, gNotN_b, gNotN_i, gNotN_s, gNotN_l, gNotN_t, truD, gEq_int, gNe_int, Bool.not_true, Bool.not_false]
  rw [List.length_map, decide_eq_true rfl]
  simp only [a_wFn, a_wSeq, a_wNx, a_wBk, a_wCt, a_wEx, a_wSet, a_wOwn, a_wAsg, a_wPar, a_wRet, a_wRetN, a_wRetF, a_wRetFO, a_wParO, a_wFnF, a_wIfS, a_wApp, a_wExt, a_wFrz, a_wAugI, a_wSetIx, a_wAugIx, a_wFor, a_lookL0, a_lookLS, a_look0, a_lookS, a_lookO0, a_lookO1, a_lookOS, a_wV, a_wO, a_wC, a_wBin, a_wUn, a_wTst, a_wTru, a_wAnd, a_wOr, a_wNot, a_wAndV, a_wOrV, a_wNotV, a_wIf, a_wCh, a_wNil, a_wCons, a_wStar, a_wTup, a_wLst, a_wCal, a_wCall, a_wCall0, a_wCallK, a_wCallB, a_wAugC, gInI_i, a_wCalK, a_wSl, a_wNo, a_wPart, a_wFld, a_wMth, a_wM0, a_wM1, a_wgN, a_wgNil, a_wgCons, a_wgT, a_wLc, a_wYes, a_itK, itK_lst, itK_tup, itK_str, seqD_lst, seqD_tup, a_wRg1, a_wRg2, a_wRg3, a_wEnumU, a_wEnumL, a_wZipU, a_wRevU, a_wComb, wipeD, a_mapS, a_map0, a_lenS, a_len0, List.replicate, a_appS, a_app0, a_set0, a_setS, Nat.reduceAdd, Nat.reduceSub, Nat.zero_add, true_and, and_true, gAdd_i, gAdd_s, gAdd_l, gAdd_t, gCat_l, gSub_i, gMul_i, gMul_l, gMul_t, gFdiv_i, gMod_i, gPow_i, gLt_i, gLe_i, gGt_i, gGe_i, gLen_l, gLen_t, gLen_s, gAbs_i, gToInt_i, gToInt_b, gToBl_i, gToBl_b, gToTup_l, gToTup_t, gToLst_l, gToLst_t, gMax2_i, gMin2_i, gNeg_i, gSl_l, gSl_t, gSl_s, gSlL_l, gRevL_l, gIsN_n, gIsN_b, gIsN_i, gIsN_s, gIsN_l, gIsN_t, gNotN_n, gNotN_b, gNotN_i, gNotN_s, gNotN_l, gNotN_t, truD, gEq_int, gNe_int, Bool.not_true, Bool.not_false]
  refine ⟨_, rfl, ?_⟩
  refine forL_by (fun i δ => ∃ a b, δ = [some (.val (.tup (ns.map Dt.int))), some (.val (.int ns.length)), a, b]) ⟨_, _, rfl⟩ (fun i d δ K hd hI hK => ?_) fun δ hI => ?_
  · obtain ⟨a, b, rfl⟩ := hI
    obtain ⟨x, hx, rfl⟩ := num_of hd
    obtain ⟨n, hn, rfl⟩ := some_map hx
    have n0 := (hns.nn n (List.mem_of_getElem? hn)).1
    simp only [a_wFn, a_wSeq, a_wNx, a_wBk, a_wCt, a_wEx, a_wSet, a_wOwn, a_wAsg, a_wPar, a_wRet, a_wRetN, a_wRetF, a_wRetFO, a_wParO, a_wFnF, a_wIfS, a_wApp, a_wExt, a_wFrz, a_wAugI, a_wSetIx, a_wAugIx, a_wFor, a_lookL0, a_lookLS, a_look0, a_lookS, a_lookO0, a_lookO1, a_lookOS, a_wV, a_wO, a_wC, a_wBin, a_wUn, a_wTst, a_wTru, a_wAnd, a_wOr, a_wNot, a_wAndV, a_wOrV, a_wNotV, a_wIf, a_wCh, a_wNil, a_wCons, a_wStar, a_wTup, a_wLst, a_wCal, a_wCall, a_wCall0, a_wCallK, a_wCallB, a_wAugC, gInI_i, a_wCalK, a_wSl, a_wNo, a_wPart, a_wFld, a_wMth, a_wM0, a_wM1, a_wgN, a_wgNil, a_wgCons, a_wgT, a_wLc, a_wYes, a_itK, itK_lst, itK_tup, itK_str, seqD_lst, seqD_tup, a_wRg1, a_wRg2, a_wRg3, a_wEnumU, a_wEnumL, a_wZipU, a_wRevU, a_wComb, wipeD, a_mapS, a_map0, a_lenS, a_len0, List.replicate, a_appS, a_app0, a_set0, a_setS, Nat.reduceAdd, Nat.reduceSub, Nat.zero_add, true_and, and_true, gAdd_i, gAdd_s, gAdd_l, gAdd_t, gCat_l, gSub_i, gMul_i, gMul_l, gMul_t, gFdiv_i, gMod_i, gPow_i, gLt_i, gLe_i, gGt_i, gGe_i, gLen_l, gLen_t, gLen_s, gAbs_i, gToInt_i, gToInt_b, gToBl_i, gToBl_b, gToTup_l, gToTup_t, gToLst_l, gToLst_t, gMax2_i, gMin2_i, gNeg_i, gSl_l, gSl_t, gSl_s, gSlL_l, gRevL_l, gIsN_n, gIsN_b, gIsN_i, gIsN_s, gIsN_l, gIsN_t, gNotN_n, gNotN_b, gNotN_i, gNotN_s, gNotN_l, gNotN_t, truD, gEq_int, gNe_int, Bool.not_true, Bool.not_false]
    refine ⟨_, rfl, rfl, ?_⟩
    rw [show uCount (.int n) = true from decide_eq_true n0]
    exact hK _ ⟨_, _, rfl⟩
  · exact hk
theorem cs_check_division (B : Bl mg) (DD : OwnDef K mg "check_division" s_check_division) (C_is_count : CalG P w K mg base 2 "is_count" (spW (suR K mg c) 1 f_is_count) [])  : CalG P w K mg base 3 "check_division" (spW (suR K mg c) 2 f_check_division) [] :=
  (pc_check_division B DD C_is_count).imp (spW_mono fun ds k e ln h => ok_check_division ds k e ln h)
def w_delays_of : WS := (wRet (wCall0 1 f_in_integers (wCons (wLc [1] (wIt (wV 0)) (wgN 1) wYes (wCall0 1 f_as_inverse (wCons (wV 1) wNil))) wNil)))
theorem pb_delays_of (B : Bl mg) (C_in_integers : CalG P w K mg base 2 "in_integers" (spW (suR K mg c) 1 f_in_integers) []) (C_as_inverse : CalG P w K mg base 2 "as_inverse" (spW (suR K mg c) 1 f_as_inverse) [])  : Bdy P w K mg base 2 "delays_of" s_delays_of ["claims", "claim"] (suR K mg c) w_delays_of := fun f cdv A outer s H E hr quiet =>
      (xsOne (xsRet (xw (xCall0 (pe_cG quiet C_in_integers hr (by decide) (by rfl) (xACons (xf (xLc (own := [("claim", 1)]) (by rfl) sc_delays_of.nd (xItC (xw (xV (pv 0)))) (blkOk_by (own := [("claim", 1)]) (N := ["claims", "claim"]) (sc := defScope s_delays_of) (by decide +kernel)) (fun _ _ _ _ _ => (xgN (pg_name (i := 1) sc_delays_of.nd rfl (Or.inl rfl)))) (fun _ _ _ _ _ => xPts0) (fun _ _ _ _ _ => (xCall0 (pe_cG quiet C_as_inverse hr (by decide) (by rfl) (xACons (xV (pv 1)) xANil)))) (by decide))) xANil))))))
theorem pc_delays_of (B : Bl mg) (DD : OwnDef K mg "delays_of" s_delays_of) (C_in_integers : CalG P w K mg base 2 "in_integers" (spW (suR K mg c) 1 f_in_integers) []) (C_as_inverse : CalG P w K mg base 2 "as_inverse" (spW (suR K mg c) 1 f_as_inverse) [])  : CalG P w K mg base 3 "delays_of" (spW (suR K mg c) 1 (wFn 2 w_delays_of)) [] :=
  calG_by DD sc_delays_of rfl (fun fd f F => F.binds (fun _ _ _ _ _ _ us hl => match us, hl with | [_], _ => rfl)) (pb_delays_of B C_in_integers C_as_inverse)
def f_delays_of : SpF := fun ds k _ => ∃ d l qs, ds = [d] ∧ seqD d = some l ∧ Clm l qs ∧ k (.lst ((delaysL qs).map Dt.int))
theorem ok_delays_of (ds k e) (ln : ds.length = 1) (h : f_delays_of ds k e) : wFn 2 w_delays_of ds k e := by
  obtain ⟨d, l, qs, rfl, hs, cl, hk⟩ := h
  have ll := nums_len cl.num
  have l6 := cl.le6
  (simp only [a_wFn, a_wFnF, a_mapS, a_map0, List.replicate, a_appS, a_app0, a_lenS, a_len0, Nat.reduceAdd, Nat.reduceSub, Nat.zero_add]; unfold w_delays_of; simp only [a_wFn, a_wSeq, a_wNx, a_wBk, a_wCt, a_wEx, a_wSet, a_wOwn, a_wAsg, a_wPar, a_wRet, a_wRetN, a_wRetF, a_wRetFO, a_wParO, a_wFnF, a_wIfS, a_wApp, a_wExt, a_wFrz, a_wAugI, a_wSetIx, a_wAugIx, a_wFor, a_lookL0, a_lookLS, a_look0, a_lookS, a_lookO0, a_lookO1, a_lookOS, a_wV, a_wO, a_wC, a_wBin, a_wUn, a_wTst, a_wTru, a_wAnd, a_wOr, a_wNot, a_wAndV, a_wOrV, a_wNotV, a_wIf, a_wCh, a_wNil, a_wCons, a_wStar, a_wTup, a_wLst, a_wCal, a_wCall, a_wCall0, a_wCallK, a_wCallB, a_wAugC, gInI_i, a_wCalK, a_wSl, a_wNo, a_wPart, a_wFld, a_wMth, a_wM0, a_wM1, a_wgN, a_wgNil, a_wgCons, a_wgT, a_wLc, a_wYes, a_itK, itK_lst, itK_tup, itK_str, seqD_lst, seqD_tup, a_wRg1, a_wRg2, a_wRg3, a_wEnumU, a_wEnumL, a_wZipU, a_wRevU, a_wComb, wipeD, a_mapS, a_map0, a_lenS, a_len0, List.replicate, a_appS, a_app0, a_set0, a_setS, Nat.reduceAdd, Nat.reduceSub, Nat.zero_add, true_and, and_true, gAdd_i, gAdd_s, gAdd_l, gAdd_t, gCat_l, gSub_i, gMul_i, gMul_l, gMul_t, gFdiv_i, gMod_i, gPow_i, gLt_i, gLe_i, gGt_i, gGe_i, gLen_l, gLen_t, gLen_s, gAbs_i, gToInt_i, gToInt_b, gToBl_i, gToBl_b, gToTup_l, gToTup_t, gToLst_l, gToLst_t, gMax2_i, gMin2_i, gNeg_i, gSl_l, gSl_t, gSl_s, gSlL_l, gRevL_l, gIsN_n, gIsN_b, gIsN_i, gIsN_s, gIsN_l, gIsN_t, gNotN_n, gNotN_b, gNotN_i, gNotN_s, gNotN_l, gNotN_t, truD, gEq_int, gNe_int, Bool.not_true, Bool.not_false])
  rw [itK_seq hs]
  refine ⟨by omega, ?_⟩
  refine lcL_rel (fun i d y => ∃ q, qs[i]? = some q ∧ y = prD (invQ q)) (fun i x K hx hK => ?_) fun out ol hr => ?_
  · obtain ⟨q, hq, e1⟩ := nums_at cl.num hx
    exact ⟨x, q, rfl, e1, hK _ ⟨q, hq, rfl⟩⟩
  have eo : out = (qs.map invQ).map prD := by
    refine List.ext_getElem? fun i => ?_
    rw [List.getElem?_map,
          List.getElem?_map]
    cases hy : out[i]? with
    | none => rw [List.getElem?_eq_none_iff.mpr (by have := List.getElem?_eq_none_iff.mp hy; omega)]; rfl
    | some y =>
      have lt := (List.getElem?_eq_some_iff.mp hy).1
      obtain ⟨q, hq, rfl⟩ := hr i _ y (List.getElem?_eq_getElem (by omega)) hy
      rw [hq]; rfl
  rw [eo]
  refine ⟨_, _, qs.map invQ, rfl, rfl, ?_, cl.inv, hk⟩
  rw [List.map_map]
  exact List.map_congr_left fun q _ => rfl
theorem cs_delays_of (B : Bl mg) (DD : OwnDef K mg "delays_of" s_delays_of) (C_in_integers : CalG P w K mg base 2 "in_integers" (spW (suR K mg c) 1 f_in_integers) []) (C_as_inverse : CalG P w K mg base 2 "as_inverse" (spW (suR K mg c) 1 f_as_inverse) [])  : CalG P w K mg base 3 "delays_of" (spW (suR K mg c) 1 f_delays_of) [] :=
  (pc_delays_of B DD C_in_integers C_as_inverse).imp (spW_mono fun ds k e ln h => ok_delays_of ds k e ln h)
def w_is_fair : WS := (wSeq (wEx (wCall0 1 f_check_rule (wCons (wV 0) wNil)))
      (wSeq (wEx (wCall0 1 f_check_claims (wCons (wV 1) wNil)))
      (wSeq (wEx (wCall0 2 f_check_division (wCons (wV 2) (wCons (wCal gLen (wCons (wV 1) wNil)) wNil))))
      (wSeq (wSet 3 (wCall0 1 f_delays_of (wCons (wV 1) wNil)))
      (wRet (wBin gLe (wCalK gMaxD (wCons (wCall0 3 f_last_dues (wCons (wV 0) (wCons (wV 3) (wCons (wV 2) wNil)))) wNil) (wCons (wC (.int 0)) wNil)) (wCal gMin (wCons (wCall0 3 f_next_dues (wCons (wV 0) (wCons (wV 3) (wCons (wV 2) wNil)))) wNil))))))))
theorem pb_is_fair (B : Bl mg) (C_check_rule : CalG P w K mg base 1 "check_rule" (spW (suR K mg c) 1 f_check_rule) []) (C_check_claims : CalG P w K mg base 4 "check_claims" (spW (suR K mg c) 1 f_check_claims) []) (C_check_division : CalG P w K mg base 3 "check_division" (spW (suR K mg c) 2 f_check_division) []) (C_delays_of : CalG P w K mg base 3 "delays_of" (spW (suR K mg c) 1 f_delays_of) []) (C_last_dues : CalG P w K mg base 2 "last_dues" (spW (suR K mg c) 3 f_last_dues) []) (C_next_dues : CalG P w K mg base 2 "next_dues" (spW (suR K mg c) 3 f_next_dues) [])  : Bdy P w K mg base 4 "is_fair" s_is_fair ["rule", "claims", "division", "delays"] (suR K mg c) w_is_fair := fun f cdv A outer s H E hr quiet =>
      (xsCons (xsEx (xw (xCall0 (pe_cG quiet C_check_rule hr (by decide) (by rfl) (xACons (xV (pv 0)) xANil)))))
      (xsCons (xsEx (xw (xCall0 (pe_cG quiet C_check_claims hr (by decide) (by rfl) (xACons (xV (pv 1)) xANil)))))
      (xsCons (xsEx (xw (xCall0 (pe_cG quiet C_check_division hr (by decide) (by rfl) (xACons (xV (pv 2)) (xACons (xCB (pe_callB call_len (by rfl) B.len (by decide +kernel) (xWCons (xw (xV (pv 1))) xWNil)) pLen) xANil))))))
      (xsCons (xsSet (i := 3) sc_is_fair.nd rfl (Or.inl rfl) (xCall0 (pe_cG quiet C_delays_of hr (by decide) (by rfl) (xACons (xV (pv 1)) xANil))))
      (xsOne (xsRet (xw (xCmp op_le pLe (xw (xMaxD (pe_callBK (cr_maxD rfl) (by rfl) B.max (by decide +kernel) (xWCons (xw (xCall0 (pe_cG quiet C_last_dues hr (by decide) (by rfl) (xACons (xV (pv 0)) (xACons (xV (pv 3)) (xACons (xV (pv 2)) xANil)))))) xWNil) (xKCons (xInt pe_int) xKNil)))) (xw (xCB (pe_callB (cr_min rfl) (by rfl) B.min (by decide +kernel) (xWCons (xw (xCall0 (pe_cG quiet C_next_dues hr (by decide) (by rfl) (xACons (xV (pv 0)) (xACons (xV (pv 3)) (xACons (xV (pv 2)) xANil)))))) xWNil)) pMin)) (nomark _)))))))))
theorem pc_is_fair (B : Bl mg) (DD : OwnDef K mg "is_fair" s_is_fair) (C_check_rule : CalG P w K mg base 1 "check_rule" (spW (suR K mg c) 1 f_check_rule) []) (C_check_claims : CalG P w K mg base 4 "check_claims" (spW (suR K mg c) 1 f_check_claims) []) (C_check_division : CalG P w K mg base 3 "check_division" (spW (suR K mg c) 2 f_check_division) []) (C_delays_of : CalG P w K mg base 3 "delays_of" (spW (suR K mg c) 1 f_delays_of) []) (C_last_dues : CalG P w K mg base 2 "last_dues" (spW (suR K mg c) 3 f_last_dues) []) (C_next_dues : CalG P w K mg base 2 "next_dues" (spW (suR K mg c) 3 f_next_dues) [])  : CalG P w K mg base 5 "is_fair" (spW (suR K mg c) 3 (wFn 4 w_is_fair)) [] :=
  calG_by DD sc_is_fair rfl (fun fd f F => F.binds (fun _ _ _ _ _ _ us hl => match us, hl with | [_, _, _], _ => rfl)) (pb_is_fair B C_check_rule C_check_claims C_check_division C_delays_of C_last_dues C_next_dues)
def f_is_fair : SpF := fun ds k _ => ∃ o hd l qs ns, ds = [.obj 0 (ruD o hd), .tup l, .tup (ns.map Dt.int)] ∧ VR o hd ∧ Clm l qs ∧ OkN ns ∧ ns.length = l.length ∧ ∀ b, (b = true ↔ FairQ o hd qs ns) → k (.bl b)
theorem ok_is_fair (ds k e) (ln : ds.length = 3) (h : f_is_fair ds k e) : wFn 4 w_is_fair ds k e := by
  obtain ⟨o, hd, l, qs, ns, rfl, vr, cl, hns, nl, hk⟩ := h
  have ll := nums_len cl.num
  have l1 := cl.ne
  (simp only [a_wFn, a_wFnF, a_mapS, a_map0, List.replicate, a_appS, a_app0, a_lenS, a_len0, Nat.reduceAdd, Nat.reduceSub, Nat.zero_add]; unfold w_is_fair; simp only [a_wFn, a_wSeq, a_wNx, a_wBk, a_wCt, a_wEx, a_wSet, a_wOwn, a_wAsg, a_wPar, a_wRet, a_wRetN, a_wRetF, a_wRetFO, a_wParO, a_wFnF, a_wIfS, a_wApp, a_wExt, a_wFrz, a_wAugI, a_wSetIx, a_wAugIx, a_wFor, a_lookL0, a_lookLS, a_look0, a_lookS, a_lookO0, a_lookO1, a_lookOS, a_wV, a_wO, a_wC, a_wBin, a_wUn, a_wTst, a_wTru, a_wAnd, a_wOr, a_wNot, a_wAndV, a_wOrV, a_wNotV, a_wIf, a_wCh, a_wNil, a_wCons, a_wStar, a_wTup, a_wLst, a_wCal, a_wCall, a_wCall0, a_wCallK, a_wCallB, a_wAugC, gInI_i, a_wCalK, a_wSl, a_wNo, a_wPart, a_wFld, a_wMth, a_wM0, a_wM1, a_wgN, a_wgNil, a_wgCons, a_wgT, a_wLc, a_wYes, a_itK, itK_lst, itK_tup, itK_str, seqD_lst, seqD_tup, a_wRg1, a_wRg2, a_wRg3, a_wEnumU, a_wEnumL, a_wZipU, a_wRevU, a_wComb, wipeD, a_mapS, a_map0, a_lenS, a_len0, List.replicate, a_appS, a_app0, a_set0, a_setS, Nat.reduceAdd, Nat.reduceSub, Nat.zero_add, true_and, and_true, gAdd_i, gAdd_s, gAdd_l, gAdd_t, gCat_l, gSub_i, gMul_i, gMul_l, gMul_t, gFdiv_i, gMod_i, gPow_i, gLt_i, gLe_i, gGt_i, gGe_i, gLen_l, gLen_t, gLen_s, gAbs_i, gToInt_i, gToInt_b, gToBl_i, gToBl_b, gToTup_l, gToTup_t, gToLst_l, gToLst_t, gMax2_i, gMin2_i, gNeg_i, gSl_l, gSl_t, gSl_s, gSlL_l, gRevL_l, gIsN_n, gIsN_b, gIsN_i, gIsN_s, gIsN_l, gIsN_t, gNotN_n, gNotN_b, gNotN_i, gNotN_s, gNotN_l, gNotN_t, truD, gEq_int, gNe_int, Bool.not_true, Bool.not_false])
  refine ⟨_, rfl, l, qs, rfl, cl, ns, by rw [nl], hns, _, l, qs, rfl, rfl, cl, ?_⟩
  refine ⟨o, hd, delaysL qs, _, ns, rfl, rfl, vr, cl.dl, hns, ?_⟩
  have fair := fair_iff vr cl hns
  have neN : nextL o hd (delaysL qs) ns ≠ [] := fun z => by
    have := congrArg List.length z
    unfold nextL delaysL wholes at this
    rw [List.length_zipWith, List.length_map, List.length_map, List.length_nil] at this
    omega
  have nn : ∀ y ∈ nextL o hd (delaysL qs) ns, 0 ≤ y := fun y hy => by
    obtain ⟨j, e, n, e1, e2, rfl⟩ := next_mem.mp hy
    have n0 := (hns.nn n (List.mem_of_getElem? e2)).1
    refine Int.mul_nonneg (wholeQ_nn vr n0) ?_
    unfold delaysL wholes at e1
    obtain ⟨q, hq, rfl⟩ := some_map e1
    obtain ⟨p, hp, rfl⟩ := some_map hq
    have hm := List.mem_of_getElem? hp
    obtain ⟨p1, _, p2, _⟩ := cl.pos p hm
    exact Int.mul_nonneg (Int.le_of_lt p2) (Int.ediv_nonneg (by omega) (Int.le_of_lt p1))
  refine ⟨lastL o hd (delaysL qs) ns, intsOf_map _, fun z => ?_, fun ne m hm hx => ?_⟩
  · refine ⟨o, hd, delaysL qs, _, ns, rfl, rfl, vr, cl.dl, hns, nextL o hd (delaysL qs) ns, intsOf_map _, neN, fun y hy hmin => hk (decide (0 ≤ y)) ?_⟩
    rw [decide_eq_true (nn y hy)]
    exact ⟨fun _ => fair.mp fun x hx => (by rw [z] at hx; cases hx), fun _ => rfl⟩
  · refine ⟨o, hd, delaysL qs, _, ns, rfl, rfl, vr, cl.dl, hns, nextL o hd (delaysL qs) ns, intsOf_map _, neN, fun y hy hmin => hk (decide (m ≤ y)) ?_⟩
    rw [decide_eq_true_iff, ← fair]
    exact ⟨fun h x h1 u h2 => Int.le_trans (hx x h1) (Int.le_trans h (hmin u h2)), fun h => h m hm y hy⟩
theorem cs_is_fair (B : Bl mg) (DD : OwnDef K mg "is_fair" s_is_fair) (C_check_rule : CalG P w K mg base 1 "check_rule" (spW (suR K mg c) 1 f_check_rule) []) (C_check_claims : CalG P w K mg base 4 "check_claims" (spW (suR K mg c) 1 f_check_claims) []) (C_check_division : CalG P w K mg base 3 "check_division" (spW (suR K mg c) 2 f_check_division) []) (C_delays_of : CalG P w K mg base 3 "delays_of" (spW (suR K mg c) 1 f_delays_of) []) (C_last_dues : CalG P w K mg base 2 "last_dues" (spW (suR K mg c) 3 f_last_dues) []) (C_next_dues : CalG P w K mg base 2 "next_dues" (spW (suR K mg c) 3 f_next_dues) [])  : CalG P w K mg base 5 "is_fair" (spW (suR K mg c) 3 f_is_fair) [] :=
  (pc_is_fair B DD C_check_rule C_check_claims C_check_division C_delays_of C_last_dues C_next_dues).imp (spW_mono fun ds k e ln h => ok_is_fair ds k e ln h)
theorem ck_is_fair_210 (B : Bl mg) (DD : OwnDef K mg "is_fair" s_is_fair) (C_check_rule : CalG P w K mg base 1 "check_rule" (spW (suR K mg c) 1 f_check_rule) []) (C_check_claims : CalG P w K mg base 4 "check_claims" (spW (suR K mg c) 1 f_check_claims) []) (C_check_division : CalG P w K mg base 3 "check_division" (spW (suR K mg c) 2 f_check_division) []) (C_delays_of : CalG P w K mg base 3 "delays_of" (spW (suR K mg c) 1 f_delays_of) []) (C_last_dues : CalG P w K mg base 2 "last_dues" (spW (suR K mg c) 3 f_last_dues) []) (C_next_dues : CalG P w K mg base 2 "next_dues" (spW (suR K mg c) 3 f_next_dues) [])  : CalPG P w K mg base 5 "is_fair" ["division", "claims", "rule"] [2, 1, 0] (spW (suR K mg c) 3 f_is_fair) :=
  (calPG_by DD sc_is_fair rfl (fun f fd F s ws _ hl => by
    obtain ⟨oc, od, kV, doc, pm, an, cdv, ct, osl,
          rfl, lk, hcd⟩ := F.ex
    match ws, hl with
    | [u0, u1, u2], _ => exact .of_eq rfl) (pb_is_fair B C_check_rule C_check_claims C_check_division C_delays_of C_last_dues C_next_dues)).imp (spW_mono fun ds k e ln h => ok_is_fair ds k e ln h)
end

end LW

set_option Elab.async false
set_option linter.all false
set_option maxRecDepth 100000
set_option maxHeartbeats 4000100
set_option exponentiation.threshold 20000
namespace LW
open L2 PySem.Spec PyProof.Rows PySem
/-! ### the law's own tank, numbers and rules, in plain data -/
def spD (o : Int × Int) (hd : List (Int × Int)) : Dt := .tup [prD o, .lst (hd.map prD)]
section
variable {S : Su} {M : Mu} {A : List Addr} {H : Hp} {v : V}
theorem da_pr {q : Int × Int} (h : D S.K H v (encQ q)) : Da S M H v (prD q) := by
  obtain ⟨a, ws, rfl, sq, all⟩ := is_tup (A := []) h.is
  obtain ⟨x, xs, rfl, h1, r⟩ := iss_cons all
  obtain ⟨y, ys, rfl, h2, r2⟩ := iss_cons r
  have : ys = [] := List.length_eq_zero_iff.mp r2.len
  subst this
  rw [is_int h1, is_int h2] at sq
  exact .tup' (sqT_full sq) (.cons (.int _) (.cons (.int _) .nil))
theorem pr_is {q : Int × Int} (h : Da S M (hv A H) v (prD q)) : Is S.K A H v (encQ q) := h.toD _ rfl
theorem toPys_pr : ∀ hd : List (Int × Int), toPys (hd.map prD) = some (hd.map encQ)
  | [] => by simp [toPys]
  | q :: hd => by
    rw [List.map_cons, List.map_cons, toPys, toPys_pr hd]
    rfl
theorem sp_is {o : Int × Int} {hd : List (Int × Int)} (h : Da S M (hv A H) v (spD o hd)) : Is S.K A H v (specD o hd) := h.toD _ (by
  unfold spD specD
  rw [toPy, toPys, toPys, toPys, toPy, toPys_pr]
  rfl)
theorem new_pr {p : Addr} {a b : Int} (hd : Hd A H) (np : H p = none) : Da S M (hv A (upd H p (.tup [.int a, .int b]))) (.ref p) (prD (a, b)) :=
  .tup' (.inl (.inl (by rw [hv_out fun z => hd p z np]; exact upd_same))) (.cons (.int _) (.cons (.int _) .nil))
end
section
variable {P : Program} {w : World} {K : PySem.W.Frag} {mg : Str → Option Value} {base : Heap} {c : Addr}
theorem tank_of {M : Mu} {H : Hp} {a : Addr} {k : Nat} (m : MOk (suR K mg c) M H) (h : (a, k) ∈ M) : TankAt H a := by
  obtain ⟨o, e, x, y, z, rfl, r⟩ := m _ h
  exact ⟨x, y, z, e, r⟩
theorem tank_ok {M : Mu} {H H' : Hp} {a : Addr} (m : MOk (suR K mg c) M H) (g : Go [a] H H') (t : TankAt H' a) : MOk (suR K mg c) M H' := fun e he => by
  by_cases z : e.1 = a
  · obtain ⟨x, y, w, e1, r⟩ := t.ex
    exact ⟨_, by rw [z]; exact e1, x, y, w, rfl, r⟩
  · obtain ⟨o, e1, r⟩ := m e he
    exact ⟨o, g.keep _ _ (by simpa using z) e1, r⟩
theorem tank_stp {M : Mu} {H H' : Hp} {a : Addr} {k : Nat} (h : (a, k) ∈ M) (g : Go [a] H H') : Stp M [] H [] H' := ⟨fun b o n _ e => g.keep b o (fun z => n (List.mem_map.mpr ⟨_, h, (List.mem_singleton.mp z).symm⟩)) e, fun _ z => by cases z⟩
def f__law_tap : SpF := fun ds k _ => ∃ m : Int, ds = [.tnk 0, .int m] ∧ 0 < m ∧ m < 1073741824 ∧ ∀ r : Int, 0 ≤ r → r < m → k (.int r)
def f__law_any : SpF := fun ds k _ => ∃ l : List Dt, ds = [.tnk 0, .lst l] ∧ 0 < l.length ∧ l.length < 1000 ∧ ∀ d ∈ l, k d
theorem br__law_tap {n : Nat} (C : Cal P w K mg base n "_law_tap" (sp__law_tap K c) []) : CalG P w K mg base n "_law_tap" (spW (suR K mg c) 2 f__law_tap) [] := (C.imp fun vs H Q E ⟨Mu, A, ds, k, e, ln, hd, mA, m, hv, hw, a, ax⟩ => by
  obtain ⟨mm, rfl, m0, m1, hk⟩ := hw
  obtain ⟨v, u, rfl, h1, h2⟩ := hv.two
  cases h1 with
  | tnk h => exact ⟨_, mm, by rw [h2.int_eq], tank_of m h, m0, m1, fun r H' r0 r1 go tk => a _ _ _ (tank_stp h (go _ (List.mem_singleton.mpr rfl))) (tank_ok m (go _ (List.mem_singleton.mpr rfl)) tk) (.int _) (hk r r0 r1)⟩).g
theorem br__law_any {n : Nat} (C : Cal P w K mg base n "_law_any" (sp__law_any K c) []) : CalG P w K mg base n "_law_any" (spW (suR K mg c) 2 f__law_any) [] := (C.imp fun vs H Q E ⟨Mu, A, ds, k, e, ln, hd, mA, m, hv, hw, a, ax⟩ => by
  obtain ⟨l, rfl, l0, l1, hk⟩ := hw
  obtain ⟨v, u, rfl, h1, h2⟩ := hv.two
  cases h1 with
  | @tnk b _ h =>
    obtain ⟨p, xs, rfl, e1, q⟩ := h2.list
    have bA := mA _ h
    refine ⟨_, p, xs, rfl, tank_of m h, .inl (.inl (hv_le _ _ e1)), fun z => ?_, by rw [q.len]; exact l0, by rw [q.len]; exact l1, fun v H' hm go tk => ?_⟩
    · rw [hv_in (by rw [z]; exact bA)] at e1
      cases e1
    · have g := go _ (List.mem_singleton.mpr rfl)
      have s := tank_stp h g
      obtain ⟨i, hi⟩ := List.getElem?_of_mem hm
      obtain ⟨d, e2, hd2⟩ := q.get' hi
      exact a _ _ _ s (tank_ok m g tk) (hd2.same (stp_hv s mA)) (hk d (List.mem_of_getElem? e2))).g
def f__law_low : SpF := fun ds k _ => ∃ t b : Int, ds = [.int t, .int b] ∧ 0 < b ∧ b.natAbs < 2 ^ 8000 ∧ k (prD (lowQ t b))
theorem br__law_low {n : Nat} (C : Cal P w K mg base n "_law_low" (sp__law_low K c) []) : CalG P w K mg base n "_law_low" (spW (suR K mg c) 2 f__law_low) [] := (C.imp fun vs H Q E ⟨Mu, A, ds, k, e, ln, hd, mA, m, hv, hw, a, ax⟩ => by
  obtain ⟨t, b, rfl, b0, b1, hk⟩ := hw
  obtain ⟨v, u, rfl, h1, h2⟩ := hv.two
  exact ⟨t, b, by rw [h1.int_eq, h2.int_eq], b0, b1, fun p np => a _ _ _ (.of (same_new np)) (m.same (same_new np)) (new_pr hd np) hk⟩).g
def f__law_exact : SpF := fun ds k _ => ∃ d q, ds = [d] ∧ numD d = some q ∧ 0 < q.2 ∧ q.2.natAbs < 2 ^ 8000 ∧ k (prD (lowQ q.1 q.2))
theorem low_one (i : Int) : lowQ i 1 = (i, 1) := by
  unfold lowQ
  simp
theorem br__law_exact {n : Nat} (C : Cal P w K mg base n "_law_exact" (sp__law_exact K c) []) : CalG P w K mg base n "_law_exact" (spW (suR K mg c) 1 f__law_exact) [] := (C.imp fun vs H Q E ⟨Mu, A, ds, k, e, ln, hd, mA, m, hv, hw, a, ax⟩ => by
  obtain ⟨d, q, rfl, hq, b0, b1, hk⟩ := hw
  obtain ⟨v, ws, rfl, h1, r⟩ := hv.of_cons
  rw [r.of_nil]
  rcases numD_of hq with ⟨i, rfl, rfl⟩ | rfl
  · exact ⟨A, v, .int i, rfl, h1.toD _ rfl, .inl ⟨i, rfl, fun p np => a _ _ _ (.of (same_new np)) (m.same (same_new np)) (new_pr hd np) (by rw [low_one] at hk; exact hk)⟩⟩
  · exact ⟨A, v, _, rfl, pr_is h1, .inr ⟨q, rfl, ⟨b0, b1⟩, fun p np => a _ _ _ (.of (same_new np)) (m.same (same_new np)) (new_pr hd np) hk⟩⟩).g
def f__law_under : SpF := fun ds k _ => ∃ p q, ds = [prD p, prD q] ∧ smallQ p ∧ smallQ q ∧ k (.bl (decide (p.1 * q.2 < q.1 * p.2)))
theorem br__law_under {n : Nat} (C : Cal P w K mg base n "_law_under" (sp__law_under K c) []) : CalG P w K mg base n "_law_under" (spW (suR K mg c) 2 f__law_under) [] := (C.imp fun vs H Q E ⟨Mu, A, ds, k, e, ln, hd, mA, m, hv, hw, a, ax⟩ => by
  obtain ⟨p, q, rfl, s1, s2, hk⟩ := hw
  obtain ⟨v, u, rfl, h1, h2⟩ := hv.two
  exact ⟨A, v, u, p, q, rfl, pr_is h1, pr_is h2, s1, s2, a _ _ _ .refl m (.bl _) hk⟩).g
def f__law_mark : SpF := fun ds k _ => ∃ o hd n, ds = [spD o hd, .int n] ∧ 0 ≤ n ∧ n.natAbs < 2 ^ 8000 ∧ o.2.natAbs < 2 ^ 8000 ∧ k (prD (markQ o hd n))
theorem br__law_mark {n : Nat} (C : Cal P w K mg base n "_law_mark" (sp__law_mark K c) []) : CalG P w K mg base n "_law_mark" (spW (suR K mg c) 2 f__law_mark) [] := (C.imp fun vs H Q E ⟨Mu, A, ds, k, e, ln, hd, mA, m, hv, hw, a, ax⟩ => by
  obtain ⟨o, hd', n, rfl, n0, n1, o1, hk⟩ := hw
  obtain ⟨v, u, rfl, h1, h2⟩ := hv.two
  exact ⟨v, A, o, hd', n, by rw [h2.int_eq], hd, sp_is h1, n0, n1, o1, fun u H' s hu => a _ _ _ (.of s) (m.same s) (da_pr hu) hk⟩).g
def f__law_rule : SpF := fun ds k _ => ∃ o hd, ds = [spD o hd] ∧ VR o hd ∧ k (.obj 0 (ruD o hd))
theorem br__law_rule {n : Nat} (C : Cal P w K mg base n "_law_rule" (sp__law_rule K c) []) : CalG P w K mg base n "_law_rule" (spW (suR K mg c) 1 f__law_rule) [] := (C.imp fun vs H Q E ⟨Mu, A, ds, k, e, ln, hd, mA, m, hv, hw, a, ax⟩ => by
  obtain ⟨o, hd', rfl, vr, hk⟩ := hw
  obtain ⟨v, ws, rfl, h1, r⟩ := hv.of_cons
  rw [r.of_nil]
  refine ⟨v, A, o, hd', rfl, hd, sp_is h1, vr, fun r H' s rA R => a _ _ _ (.of s) (m.same s) (.obj ⟨rfl, r, o, hd', rfl, rfl, vr, ?_⟩) hk⟩
  obtain ⟨dx, v0, v1, v2, v3, e, h0, h1, h2, h3⟩ := R.ex
  exact ⟨dx, v0, v1, v2, v3, by rw [hv_out rA]; exact e, h0.is, h1.is, h2.is, h3.is⟩).g
def f__law_written : SpF := fun ds k _ => ∃ q, ds = [prD q] ∧ OkW q ∧ k (.str (SX.S (qL q)))
theorem br__law_written {n : Nat} (C : Cal P w K mg base n "_law_written" (sp__law_written K c) []) : CalG P w K mg base n "_law_written" (spW (suR K mg c) 1 f__law_written) [] := (C.imp fun vs H Q E ⟨Mu, A, ds, k, e, ln, hd, mA, m, hv, hw, a, ax⟩ => by
  obtain ⟨q, rfl, ok, hk⟩ := hw
  obtain ⟨v, ws, rfl, h1, r⟩ := hv.of_cons
  rw [r.of_nil]
  exact ⟨v, A, q, rfl, pr_is h1, ok, a _ _ _ .refl m (.str _) hk⟩).g
def f__law_text : SpF := fun ds k _ => ∃ o hd, ds = [spD o hd] ∧ VR o hd ∧ k (.str (SX.S (ruleL o hd)))
theorem br__law_text {n : Nat} (C : Cal P w K mg base n "_law_text" (sp__law_text K c) []) : CalG P w K mg base n "_law_text" (spW (suR K mg c) 1 f__law_text) [] := (C.imp fun vs H Q E ⟨Mu, A, ds, k, e, ln, hd, mA, m, hv, hw, a, ax⟩ => by
  obtain ⟨o, hd', rfl, vr, hk⟩ := hw
  obtain ⟨v, ws, rfl, h1, r⟩ := hv.of_cons
  rw [r.of_nil]
  exact ⟨v, A, o, hd', rfl, hd, sp_is h1, vr, fun H' s => a _ _ _ (.of s) (m.same s) (.str _) hk⟩).g
end

end LW

set_option Elab.async false
set_option linter.all false
set_option maxRecDepth 100000
set_option maxHeartbeats 4000100
set_option exponentiation.threshold 20000
namespace LW
open L2 PySem.Spec PyProof.Rows PySem
/-! ### the law's rules, drawn, in plain data -/
theorem shapedQs (hd : List (Int × Int)) : toPy (.lst (hd.map prD)) = some (.list (hd.map encQ)) := by rw [toPy, toPys_pr]; rfl
section
variable {P : Program} {w : World} {K : PySem.W.Frag} {mg : Str → Option Value} {base : Heap} {c : Addr}
def w__law_head : WS := (wSeq (wAsg (wTup (wCons (wCall0 2 f__law_any (wCons (wV 0) (wCons (wLst (wCons (wC (.int 0)) (wCons (wC (.int 0)) (wCons (wC (.int 1)) (wCons (wC (.int 1)) (wCons (wC (.int 2)) (wCons (wC (.int 3)) (wCons (wC (.int 8)) wNil)))))))) wNil))) (wCons (wCall0 2 f__law_any (wCons (wV 0) (wCons (wLst (wCons (wC (.int 1)) (wCons (wC (.int 2)) (wCons (wC (.int 3)) (wCons (wC (.int 7)) (wCons (wC (.int 10)) (wCons (wC (.int 12)) wNil))))))) wNil))) wNil))) (wgT 2 (wgCons (wgN 2) (wgCons (wgN 3) wgNil))))
      (wSeq (wSet 4 (wLc [5] (wRg1 (wV 2)) (wgN 5) wYes (wBin LW.gFdiv (wCal gToInt (wCons (wBin LW.gAdd (wBin LW.gMul (wV 3) (wV 5)) (wCall0 2 f__law_tap (wCons (wV 0) (wCons (wBin LW.gAdd (wV 3) (wC (.int 1))) wNil)))) wNil)) (wCall0 2 f__law_any (wCons (wV 0) (wCons (wLst (wCons (wC (.int 1)) (wCons (wC (.int 1)) (wCons (wC (.int 2)) wNil)))) wNil))))))
      (wSeq (wSet 6 (wLc [7] (wIt (wCal gSortSet (wCons (wV 4) wNil))) (wgN 7) wYes (wCall0 2 f__law_low (wCons (wV 7) (wCons (wV 3) wNil)))))
      (wSeq (wWhile (wAnd (wTst (wBin gNe (wV 6) (wLst wNil))) (wNot (wTst (wCall0 2 f__law_under (wCons (wBin gIx (wV 6) (wUn gNeg (wC (.int 1)))) (wCons (wTup (wCons (wBin LW.gAdd (wBin LW.gMul (wCal gLen (wCons (wV 6) wNil)) (wBin gIx (wV 1) (wC (.int 1)))) (wBin gIx (wV 1) (wC (.int 0)))) (wCons (wBin gIx (wV 1) (wC (.int 1))) wNil))) wNil))))))
      (wSet 6 (wSl gSl (wV 6) wNo (wPart (wUn gNeg (wC (.int 1)))))))
      (wRet (wV 6))))))
theorem pb__law_head (B : Bl mg) (C__law_any : CalG P w K mg base 2 "_law_any" (spW (suR K mg c) 2 f__law_any) []) (C__law_low : CalG P w K mg base 1 "_law_low" (spW (suR K mg c) 2 f__law_low) []) (C__law_under : CalG P w K mg base 1 "_law_under" (spW (suR K mg c) 2 f__law_under) []) (C__law_tap : CalG P w K mg base 1 "_law_tap" (spW (suR K mg c) 2 f__law_tap) [])  : Bdy P w K mg base 2 "_law_head" s__law_head ["_law_tank_here", "_law_top", "_law_size", "_law_bottom", "_law_drawn", "_law_k", "_law_numbers", "_law_drawn_one"] (suR K mg c) w__law_head := fun f cdv A outer s H E hr quiet =>
      (xsCons (xsAsg (xTup (xACons (xCall0 (pe_cG quiet C__law_any hr (by decide) (by rfl) (xACons (xV (pv 0)) (xACons (xf (xLst (xACons (xInt pe_int) (xACons (xInt pe_int) (xACons (xInt pe_int) (xACons (xInt pe_int) (xACons (xInt pe_int) (xACons (xInt pe_int) (xACons (xInt pe_int) xANil))))))))) xANil)))) (xACons (xCall0 (pe_cG quiet C__law_any hr (by decide) (by rfl) (xACons (xV (pv 0)) (xACons (xf (xLst (xACons (xInt pe_int) (xACons (xInt pe_int) (xACons (xInt pe_int) (xACons (xInt pe_int) (xACons (xInt pe_int) (xACons (xInt pe_int) xANil)))))))) xANil)))) xANil))) (xgT (n := 2) (by rfl) (xgCons (xgN (pg_name (i := 2) sc__law_head.nd rfl (Or.inl rfl))) (xgCons (xgN (pg_name (i := 3) sc__law_head.nd rfl (Or.inr rfl))) xgNil))))
      (xsCons (xsLcSet (i := 4) (ps_setLc (own := [("_law_k", 5)]) (by rfl) sc__law_head.nd rfl rfl (sw_true rfl rfl rfl (by decide +kernel)) (xic (xRg1 (by rfl) B.range (xV (pv 2)))) (blkOk_by (own := [("_law_k", 5)]) (N := ["_law_tank_here", "_law_top", "_law_size", "_law_bottom", "_law_drawn", "_law_k", "_law_numbers", "_law_drawn_one"]) (sc := defScope s__law_head) (by decide +kernel)) (fun _ _ _ _ _ => (xgN (pg_name (i := 5) sc__law_head.nd rfl (Or.inl rfl)))) (fun _ _ _ _ _ => xPts0) (fun _ _ _ _ _ => (xBin op_fdivW pFdiv (xw (xCB (pe_callTy call_int1 (by rfl) B.int (by decide +kernel) (xWCons (xw (xBin op_addU pAdd (xw (xBin op_mulU pMul (xw (xV (pv 3))) (xw (xV (pv 5))))) (xw (xCall0 (pe_cG quiet C__law_tap hr (by decide) (by rfl) (xACons (xV (pv 0)) (xACons (xBin op_addU pAdd (xw (xV (pv 3))) (xw (xInt pe_int))) xANil))))))) xWNil)) pToInt)) (xw (xCall0 (pe_cG quiet C__law_any hr (by decide) (by rfl) (xACons (xV (pv 0)) (xACons (xf (xLst (xACons (xInt pe_int) (xACons (xInt pe_int) (xACons (xInt pe_int) xANil))))) xANil)))))))) (by decide))
      (xsCons (xsLcSet (i := 6) (ps_setLc (own := [("_law_drawn_one", 7)]) (by rfl) sc__law_head.nd rfl rfl (sw_true rfl rfl rfl (by decide +kernel)) (xItC (xw (xf (xSortSet (pe_callB (cr_sortedSet rfl) (by rfl) B.sorted (by decide +kernel) (pa_cons (pe_callTy (cr_setN rfl) (by rfl) B.set (by decide +kernel) (xWCons (xw (xV (pv 4))) xWNil)) pa_nil)))))) (blkOk_by (own := [("_law_drawn_one", 7)]) (N := ["_law_tank_here", "_law_top", "_law_size", "_law_bottom", "_law_drawn", "_law_k", "_law_numbers", "_law_drawn_one"]) (sc := defScope s__law_head) (by decide +kernel)) (fun _ _ _ _ _ => (xgN (pg_name (i := 7) sc__law_head.nd rfl (Or.inl rfl)))) (fun _ _ _ _ _ => xPts0) (fun _ _ _ _ _ => (xCall0 (pe_cG quiet C__law_low hr (by decide) (by rfl) (xACons (xV (pv 7)) (xACons (xV (pv 3)) xANil)))))) (by decide))
      (xsCons (xsWhile PassesOwn.never (PW.pt (xWAnd (xTCmp (op_neD hr.units) pNe (xw (xV (pv 6))) (xw (xf (xLst xANil))) (nomark _)) (xWAnd1 (xTNot (xTV (xCall0 (pe_cG quiet C__law_under hr (by decide) (by rfl) (xACons (xIx ix_seq pIx (xw (xV (pv 6))) (xw (xNeg (xw (xInt pe_int)))) (fun _ _ => rfl)) (xACons (xTup (xACons (xBin op_addU pAdd (xw (xBin op_mulU pMul (xw (xCB (pe_callB call_len (by rfl) B.len (by decide +kernel) (xWCons (xw (xV (pv 6))) xWNil)) pLen)) (xw (xIx ix_seq pIx (xw (xV (pv 1))) (xw (xInt pe_int)) (fun _ _ => rfl))))) (xw (xIx ix_seq pIx (xw (xV (pv 1))) (xw (xInt pe_int)) (fun _ _ => rfl)))) (xACons (xIx ix_seq pIx (xw (xV (pv 1))) (xw (xInt pe_int)) (fun _ _ => rfl)) xANil))) xANil)))))))))
      (xsOne (xsSet (i := 6) sc__law_head.nd rfl (Or.inl rfl) (xSl (xw (xV (pv 6))) xNo (xPart (xNeg (xw (xInt pe_int))))))))
      (xsOne (xsRet (xw (xV (pv 6)))))))))
theorem pc__law_head (B : Bl mg) (DD : OwnDef K mg "_law_head" s__law_head) (C__law_any : CalG P w K mg base 2 "_law_any" (spW (suR K mg c) 2 f__law_any) []) (C__law_low : CalG P w K mg base 1 "_law_low" (spW (suR K mg c) 2 f__law_low) []) (C__law_under : CalG P w K mg base 1 "_law_under" (spW (suR K mg c) 2 f__law_under) []) (C__law_tap : CalG P w K mg base 1 "_law_tap" (spW (suR K mg c) 2 f__law_tap) [])  : CalG P w K mg base 3 "_law_head" (spW (suR K mg c) 2 (wFn 8 w__law_head)) [] :=
  calG_by DD sc__law_head rfl (fun fd f F => F.binds (fun _ _ _ _ _ _ us hl => match us, hl with | [_, _], _ => rfl)) (pb__law_head B C__law_any C__law_low C__law_under C__law_tap)
def f__law_head : SpF := fun ds k _ => ∃ o, ds = [.tnk 0, prD o] ∧ OkO o ∧ ∀ hd, DH o hd → k (.lst (hd.map prD))
theorem ok__law_head (ds k e) (ln : ds.length = 2) (h : f__law_head ds k e) : wFn 8 w__law_head ds k e := by
  obtain ⟨o, rfl, ok, hk⟩ := h
  (simp only [a_wFn, a_wFnF, a_mapS, a_map0, List.replicate, a_appS, a_app0, a_lenS, a_len0, Nat.reduceAdd, Nat.reduceSub, Nat.zero_add]; unfold w__law_head; simp only [a_wFn, a_wSeq, a_wNx, a_wBk, a_wCt, a_wEx, a_wSet, a_wOwn, a_wAsg, a_wPar, a_wRet, a_wRetN, a_wRetF, a_wRetFO, a_wParO, a_wFnF, a_wIfS, a_wApp, a_wExt, a_wFrz, a_wAugI, a_wSetIx, a_wAugIx, a_wFor, a_lookL0, a_lookLS, a_look0, a_lookS, a_lookO0, a_lookO1, a_lookOS, a_wV, a_wO, a_wC, a_wBin, a_wUn, a_wTst, a_wTru, a_wAnd, a_wOr, a_wNot, a_wAndV, a_wOrV, a_wNotV, a_wIf, a_wCh, a_wNil, a_wCons, a_wStar, a_wTup, a_wLst, a_wCal, a_wCall, a_wCall0, a_wCallK, a_wCallB, a_wAugC, gInI_i, a_wCalK, a_wSl, a_wNo, a_wPart, a_wFld, a_wMth, a_wM0, a_wM1, a_wgN, a_wgNil, a_wgCons, a_wgT, a_wLc, a_wYes, a_itK, itK_lst, itK_tup, itK_str, seqD_lst, seqD_tup, a_wRg1, a_wRg2, a_wRg3, a_wEnumU, a_wEnumL, a_wZipU, a_wRevU, a_wComb, wipeD, a_mapS, a_map0, a_lenS, a_len0, List.replicate, a_appS, a_app0, a_set0, a_setS, Nat.reduceAdd, Nat.reduceSub, Nat.zero_add, true_and, and_true, gAdd_i, gAdd_s, gAdd_l, gAdd_t, gCat_l, gSub_i, gMul_i, gMul_l, gMul_t, gFdiv_i, gMod_i, gPow_i, gLt_i, gLe_i, gGt_i, gGe_i, gLen_l, gLen_t, gLen_s, gAbs_i, gToInt_i, gToInt_b, gToBl_i, gToBl_b, gToTup_l, gToTup_t, gToLst_l, gToLst_t, gMax2_i, gMin2_i, gNeg_i, gSl_l, gSl_t, gSl_s, gSlL_l, gRevL_l, gIsN_n, gIsN_b, gIsN_i, gIsN_s, gIsN_l, gIsN_t, gNotN_n, gNotN_b, gNotN_i, gNotN_s, gNotN_l, gNotN_t, truD, gEq_int, gNe_int, Bool.not_true, Bool.not_false])
  refine ⟨by decide, _, rfl, by decide, by decide, fun d1 h1 => ⟨by decide, _, rfl, by decide, by decide, fun d2 h2 => ?_⟩⟩
  obtain ⟨s, m1, rfl⟩ := mem_ints (l := [0, 0, 1, 1, 2, 3, 8]) h1
  obtain ⟨bt, m2, rfl⟩ := mem_ints (l := [1, 2, 3, 7, 10, 12]) h2
  have s8 : 0 ≤ s ∧ s ≤ 8 := by
    simp only [List.mem_cons, List.not_mem_nil, or_false] at m1
    omega
  have b12 : 1 ≤ bt ∧ bt ≤ 12 := by
    simp only [List.mem_cons, List.not_mem_nil, or_false] at m2
    omega
  simp only [a_wFn, a_wSeq, a_wNx, a_wBk, a_wCt, a_wEx, a_wSet, a_wOwn, a_wAsg, a_wPar, a_wRet, a_wRetN, a_wRetF, a_wRetFO, a_wParO, a_wFnF, a_wIfS, a_wApp, a_wExt, a_wFrz, a_wAugI, a_wSetIx, a_wAugIx, a_wFor, a_lookL0, a_lookLS, a_look0, a_lookS, a_lookO0, a_lookO1, a_lookOS, a_wV, a_wO, a_wC, a_wBin, a_wUn, a_wTst, a_wTru, a_wAnd, a_wOr, a_wNot, a_wAndV, a_wOrV, a_wNotV, a_wIf, a_wCh, a_wNil, a_wCons, a_wStar, a_wTup, a_wLst, a_wCal, a_wCall, a_wCall0, a_wCallK, a_wCallB, a_wAugC, gInI_i, a_wCalK, a_wSl, a_wNo, a_wPart, a_wFld, a_wMth, a_wM0, a_wM1, a_wgN, a_wgNil, a_wgCons, a_wgT, a_wLc, a_wYes, a_itK, itK_lst, itK_tup, itK_str, seqD_lst, seqD_tup, a_wRg1, a_wRg2, a_wRg3, a_wEnumU, a_wEnumL, a_wZipU, a_wRevU, a_wComb, wipeD, a_mapS, a_map0, a_lenS, a_len0, List.replicate, a_appS, a_app0, a_set0, a_setS, Nat.reduceAdd, Nat.reduceSub, Nat.zero_add, true_and, and_true, gAdd_i, gAdd_s, gAdd_l, gAdd_t, gCat_l, gSub_i, gMul_i, gMul_l, gMul_t, gFdiv_i, gMod_i, gPow_i, gLt_i, gLe_i, gGt_i, gGe_i, gLen_l, gLen_t, gLen_s, gAbs_i, gToInt_i, gToInt_b, gToBl_i, gToBl_b, gToTup_l, gToTup_t, gToLst_l, gToLst_t, gMax2_i, gMin2_i, gNeg_i, gSl_l, gSl_t, gSl_s, gSlL_l, gRevL_l, gIsN_n, gIsN_b, gIsN_i, gIsN_s, gIsN_l, gIsN_t, gNotN_n, gNotN_b, gNotN_i, gNotN_s, gNotN_l, gNotN_t, truD, gEq_int, gNe_int, Bool.not_true, Bool.not_false]
  refine ⟨by decide, by omega, by omega, by rw [rgI_len]; omega, ?_⟩
  refine lcL_rel (fun _ _ y => ∃ z : Int, y = .int z ∧ 0 ≤ z ∧ z < 200) (fun i d K hd hK => ?_) fun out ol hr => ?_
  · obtain ⟨hi, rfl⟩ := rgI_at hd
    simp only [a_wFn, a_wSeq, a_wNx, a_wBk, a_wCt, a_wEx, a_wSet, a_wOwn, a_wAsg, a_wPar, a_wRet, a_wRetN, a_wRetF, a_wRetFO, a_wParO, a_wFnF, a_wIfS, a_wApp, a_wExt, a_wFrz, a_wAugI, a_wSetIx, a_wAugIx, a_wFor, a_lookL0, a_lookLS, a_look0, a_lookS, a_lookO0, a_lookO1, a_lookOS, a_wV, a_wO, a_wC, a_wBin, a_wUn, a_wTst, a_wTru, a_wAnd, a_wOr, a_wNot, a_wAndV, a_wOrV, a_wNotV, a_wIf, a_wCh, a_wNil, a_wCons, a_wStar, a_wTup, a_wLst, a_wCal, a_wCall, a_wCall0, a_wCallK, a_wCallB, a_wAugC, gInI_i, a_wCalK, a_wSl, a_wNo, a_wPart, a_wFld, a_wMth, a_wM0, a_wM1, a_wgN, a_wgNil, a_wgCons, a_wgT, a_wLc, a_wYes, a_itK, itK_lst, itK_tup, itK_str, seqD_lst, seqD_tup, a_wRg1, a_wRg2, a_wRg3, a_wEnumU, a_wEnumL, a_wZipU, a_wRevU, a_wComb, wipeD, a_mapS, a_map0, a_lenS, a_len0, List.replicate, a_appS, a_app0, a_set0, a_setS, Nat.reduceAdd, Nat.reduceSub, Nat.zero_add, true_and, and_true, gAdd_i, gAdd_s, gAdd_l, gAdd_t, gCat_l, gSub_i, gMul_i, gMul_l, gMul_t, gFdiv_i, gMod_i, gPow_i, gLt_i, gLe_i, gGt_i, gGe_i, gLen_l, gLen_t, gLen_s, gAbs_i, gToInt_i, gToInt_b, gToBl_i, gToBl_b, gToTup_l, gToTup_t, gToLst_l, gToLst_t, gMax2_i, gMin2_i, gNeg_i, gSl_l, gSl_t, gSl_s, gSlL_l, gRevL_l, gIsN_n, gIsN_b, gIsN_i, gIsN_s, gIsN_l, gIsN_t, gNotN_n, gNotN_b, gNotN_i, gNotN_s, gNotN_l, gNotN_t, truD, gEq_int, gNe_int, Bool.not_true, Bool.not_false]
    refine ⟨wide_mul (a := 20) (b := 20) (by omega) (by omega) (by decide) (by decide) (by decide), bt + 1, rfl, by omega, by omega, fun r r0 r1 => ?_⟩
    simp only [a_wFn, a_wSeq, a_wNx, a_wBk, a_wCt, a_wEx, a_wSet, a_wOwn, a_wAsg, a_wPar, a_wRet, a_wRetN, a_wRetF, a_wRetFO, a_wParO, a_wFnF, a_wIfS, a_wApp, a_wExt, a_wFrz, a_wAugI, a_wSetIx, a_wAugIx, a_wFor, a_lookL0, a_lookLS, a_look0, a_lookS, a_lookO0, a_lookO1, a_lookOS, a_wV, a_wO, a_wC, a_wBin, a_wUn, a_wTst, a_wTru, a_wAnd, a_wOr, a_wNot, a_wAndV, a_wOrV, a_wNotV, a_wIf, a_wCh, a_wNil, a_wCons, a_wStar, a_wTup, a_wLst, a_wCal, a_wCall, a_wCall0, a_wCallK, a_wCallB, a_wAugC, gInI_i, a_wCalK, a_wSl, a_wNo, a_wPart, a_wFld, a_wMth, a_wM0, a_wM1, a_wgN, a_wgNil, a_wgCons, a_wgT, a_wLc, a_wYes, a_itK, itK_lst, itK_tup, itK_str, seqD_lst, seqD_tup, a_wRg1, a_wRg2, a_wRg3, a_wEnumU, a_wEnumL, a_wZipU, a_wRevU, a_wComb, wipeD, a_mapS, a_map0, a_lenS, a_len0, List.replicate, a_appS, a_app0, a_set0, a_setS, Nat.reduceAdd, Nat.reduceSub, Nat.zero_add, true_and, and_true, gAdd_i, gAdd_s, gAdd_l, gAdd_t, gCat_l, gSub_i, gMul_i, gMul_l, gMul_t, gFdiv_i, gMod_i, gPow_i, gLt_i, gLe_i, gGt_i, gGe_i, gLen_l, gLen_t, gLen_s, gAbs_i, gToInt_i, gToInt_b, gToBl_i, gToBl_b, gToTup_l, gToTup_t, gToLst_l, gToLst_t, gMax2_i, gMin2_i, gNeg_i, gSl_l, gSl_t, gSl_s, gSlL_l, gRevL_l, gIsN_n, gIsN_b, gIsN_i, gIsN_s, gIsN_l, gIsN_t, gNotN_n, gNotN_b, gNotN_i, gNotN_s, gNotN_l, gNotN_t, truD, gEq_int, gNe_int, Bool.not_true, Bool.not_false]
    refine ⟨by decide, _, rfl, by decide, by decide, fun d3 h3 => ?_⟩
    obtain ⟨dv, m3, rfl⟩ := mem_ints (l := [1, 1, 2]) h3
    have dv2 : 1 ≤ dv ∧ dv ≤ 2 := by
      simp only [List.mem_cons, List.not_mem_nil, or_false] at m3
      omega
    simp only [a_wFn, a_wSeq, a_wNx, a_wBk, a_wCt, a_wEx, a_wSet, a_wOwn, a_wAsg, a_wPar, a_wRet, a_wRetN, a_wRetF, a_wRetFO, a_wParO, a_wFnF, a_wIfS, a_wApp, a_wExt, a_wFrz, a_wAugI, a_wSetIx, a_wAugIx, a_wFor, a_lookL0, a_lookLS, a_look0, a_lookS, a_lookO0, a_lookO1, a_lookOS, a_wV, a_wO, a_wC, a_wBin, a_wUn, a_wTst, a_wTru, a_wAnd, a_wOr, a_wNot, a_wAndV, a_wOrV, a_wNotV, a_wIf, a_wCh, a_wNil, a_wCons, a_wStar, a_wTup, a_wLst, a_wCal, a_wCall, a_wCall0, a_wCallK, a_wCallB, a_wAugC, gInI_i, a_wCalK, a_wSl, a_wNo, a_wPart, a_wFld, a_wMth, a_wM0, a_wM1, a_wgN, a_wgNil, a_wgCons, a_wgT, a_wLc, a_wYes, a_itK, itK_lst, itK_tup, itK_str, seqD_lst, seqD_tup, a_wRg1, a_wRg2, a_wRg3, a_wEnumU, a_wEnumL, a_wZipU, a_wRevU, a_wComb, wipeD, a_mapS, a_map0, a_lenS, a_len0, List.replicate, a_appS, a_app0, a_set0, a_setS, Nat.reduceAdd, Nat.reduceSub, Nat.zero_add, true_and, and_true, gAdd_i, gAdd_s, gAdd_l, gAdd_t, gCat_l, gSub_i, gMul_i, gMul_l, gMul_t, gFdiv_i, gMod_i, gPow_i, gLt_i, gLe_i, gGt_i, gGe_i, gLen_l, gLen_t, gLen_s, gAbs_i, gToInt_i, gToInt_b, gToBl_i, gToBl_b, gToTup_l, gToTup_t, gToLst_l, gToLst_t, gMax2_i, gMin2_i, gNeg_i, gSl_l, gSl_t, gSl_s, gSlL_l, gRevL_l, gIsN_n, gIsN_b, gIsN_i, gIsN_s, gIsN_l, gIsN_t, gNotN_n, gNotN_b, gNotN_i, gNotN_s, gNotN_l, gNotN_t, truD, gEq_int, gNe_int, Bool.not_true, Bool.not_false]
    have p0 : 0 ≤ bt * (0 + ((i : Nat) : Int)) := Int.mul_nonneg (by omega) (by omega)
    have p1 : bt * (0 + ((i : Nat) : Int)) ≤ 12 * 7 := Int.mul_le_mul (by omega) (by omega) (by omega) (by omega)
    refine ⟨wide_div (b := 20) (by omega) (by omega) (by decide) (by decide), hK _ ⟨_, rfl, Int.ediv_nonneg (by omega) (by omega), ?_⟩⟩
    have := Int.ediv_le_self dv (show 0 ≤ bt * (0 + ((i : Nat) : Int)) + r by omega)
    omega
  rw [rgI_len] at ol
  obtain ⟨zs, rfl, zl, hz⟩ := map_of Dt.int fun y hy => (rel_mem (R := fun _ y => ∃ z : Int, y = .int z ∧ 0 ≤ z ∧ z < 200) (by rw [ol, rgI_len]) hr y hy).elim fun _ h => h.2
  refine ⟨zs, intsOf_map _, by omega, fun ns pw mem nl => ?_⟩
  simp only [a_wFn, a_wSeq, a_wNx, a_wBk, a_wCt, a_wEx, a_wSet, a_wOwn, a_wAsg, a_wPar, a_wRet, a_wRetN, a_wRetF, a_wRetFO, a_wParO, a_wFnF, a_wIfS, a_wApp, a_wExt, a_wFrz, a_wAugI, a_wSetIx, a_wAugIx, a_wFor, a_lookL0, a_lookLS, a_look0, a_lookS, a_lookO0, a_lookO1, a_lookOS, a_wV, a_wO, a_wC, a_wBin, a_wUn, a_wTst, a_wTru, a_wAnd, a_wOr, a_wNot, a_wAndV, a_wOrV, a_wNotV, a_wIf, a_wCh, a_wNil, a_wCons, a_wStar, a_wTup, a_wLst, a_wCal, a_wCall, a_wCall0, a_wCallK, a_wCallB, a_wAugC, gInI_i, a_wCalK, a_wSl, a_wNo, a_wPart, a_wFld, a_wMth, a_wM0, a_wM1, a_wgN, a_wgNil, a_wgCons, a_wgT, a_wLc, a_wYes, a_itK, itK_lst, itK_tup, itK_str, seqD_lst, seqD_tup, a_wRg1, a_wRg2, a_wRg3, a_wEnumU, a_wEnumL, a_wZipU, a_wRevU, a_wComb, wipeD, a_mapS, a_map0, a_lenS, a_len0, List.replicate, a_appS, a_app0, a_set0, a_setS, Nat.reduceAdd, Nat.reduceSub, Nat.zero_add, true_and, and_true, gAdd_i, gAdd_s, gAdd_l, gAdd_t, gCat_l, gSub_i, gMul_i, gMul_l, gMul_t, gFdiv_i, gMod_i, gPow_i, gLt_i, gLe_i, gGt_i, gGe_i, gLen_l, gLen_t, gLen_s, gAbs_i, gToInt_i, gToInt_b, gToBl_i, gToBl_b, gToTup_l, gToTup_t, gToLst_l, gToLst_t, gMax2_i, gMin2_i, gNeg_i, gSl_l, gSl_t, gSl_s, gSlL_l, gRevL_l, gIsN_n, gIsN_b, gIsN_i, gIsN_s, gIsN_l, gIsN_t, gNotN_n, gNotN_b, gNotN_i, gNotN_s, gNotN_l, gNotN_t, truD, gEq_int, gNe_int, Bool.not_true, Bool.not_false]
  have hzn : ∀ z ∈ ns, 0 ≤ z ∧ z < 200 := fun z hm => hz z ((mem z).mp hm)
  have d0 : DH0 (ns.map fun z => lowQ z bt) := DH0.of b12.1 b12.2 pw hzn (by omega)
  refine ⟨by rw [List.length_map]; omega, ?_⟩
  refine lcL_map (fun d => match d with | .int z => prD (lowQ z bt) | _ => .non) (fun d K hd hK => ?_) ?_
  · obtain ⟨z, hm, rfl⟩ := List.mem_map.mp hd
    exact ⟨z, bt, rfl, by omega, Nat.lt_trans (show bt.natAbs < 2 ^ 20 by omega) (by decide +kernel), hK⟩
  rw [List.map_map]
  refine whN_by (fun m δ => ∃ hd : List (Int × Int), DH0 hd ∧ hd.length = m ∧ ∃ a b c d e, δ = [some (.val (.tnk 0)), some (.val (prD o)), a, b, c, d, some (.val (.lst (hd.map prD))), e]) _ ⟨ns.map fun z => lowQ z bt, d0, rfl, _, _, _, _, _, by rw [List.map_map]; rfl⟩ fun m δ K ⟨hd, dh, hl, a, b, c, d, e, eδ⟩ hK => ?_
  subst eδ
  have hd8 := dh.len
  simp only [a_wFn, a_wSeq, a_wNx, a_wBk, a_wCt, a_wEx, a_wSet, a_wOwn, a_wAsg, a_wPar, a_wRet, a_wRetN, a_wRetF, a_wRetFO, a_wParO, a_wFnF, a_wIfS, a_wApp, a_wExt, a_wFrz, a_wAugI, a_wSetIx, a_wAugIx, a_wFor, a_lookL0, a_lookLS, a_look0, a_lookS, a_lookO0, a_lookO1, a_lookOS, a_wV, a_wO, a_wC, a_wBin, a_wUn, a_wTst, a_wTru, a_wAnd, a_wOr, a_wNot, a_wAndV, a_wOrV, a_wNotV, a_wIf, a_wCh, a_wNil, a_wCons, a_wStar, a_wTup, a_wLst, a_wCal, a_wCall, a_wCall0, a_wCallK, a_wCallB, a_wAugC, gInI_i, a_wCalK, a_wSl, a_wNo, a_wPart, a_wFld, a_wMth, a_wM0, a_wM1, a_wgN, a_wgNil, a_wgCons, a_wgT, a_wLc, a_wYes, a_itK, itK_lst, itK_tup, itK_str, seqD_lst, seqD_tup, a_wRg1, a_wRg2, a_wRg3, a_wEnumU, a_wEnumL, a_wZipU, a_wRevU, a_wComb, wipeD, a_mapS, a_map0, a_lenS, a_len0, List.replicate, a_appS, a_app0, a_set0, a_setS, Nat.reduceAdd, Nat.reduceSub, Nat.zero_add, true_and, and_true, gAdd_i, gAdd_s, gAdd_l, gAdd_t, gCat_l, gSub_i, gMul_i, gMul_l, gMul_t, gFdiv_i, gMod_i, gPow_i, gLt_i, gLe_i, gGt_i, gGe_i, gLen_l, gLen_t, gLen_s, gAbs_i, gToInt_i, gToInt_b, gToBl_i, gToBl_b, gToTup_l, gToTup_t, gToLst_l, gToLst_t, gMax2_i, gMin2_i, gNeg_i, gSl_l, gSl_t, gSl_s, gSlL_l, gRevL_l, gIsN_n, gIsN_b, gIsN_i, gIsN_s, gIsN_l, gIsN_t, gNotN_n, gNotN_b, gNotN_i, gNotN_s, gNotN_l, gNotN_t, truD, gEq_int, gNe_int, Bool.not_true, Bool.not_false]
  refine ⟨by decide, ?_⟩
  rw [gNe_of (shapedQs hd) (show toPy (.lst []) = some (.list []) from rfl) (shapedQ hd) (by decide), eqv_nil]
  by_cases ne : hd = []
  · subst ne
    exact hk [] ⟨by decide, by simp, by simp, by simp⟩
  obtain ⟨r, x, rfl⟩ := cons_last ne
  have rl : r.length ≤ 7 := by rw [List.length_append] at hd8; simp at hd8; omega
  have e1 : (List.isEmpty ((r ++ [x]).map encQ)) = false := by simp
  rw [e1]
  simp only [a_wFn, a_wSeq, a_wNx, a_wBk, a_wCt, a_wEx, a_wSet, a_wOwn, a_wAsg, a_wPar, a_wRet, a_wRetN, a_wRetF, a_wRetFO, a_wParO, a_wFnF, a_wIfS, a_wApp, a_wExt, a_wFrz, a_wAugI, a_wSetIx, a_wAugIx, a_wFor, a_lookL0, a_lookLS, a_look0, a_lookS, a_lookO0, a_lookO1, a_lookOS, a_wV, a_wO, a_wC, a_wBin, a_wUn, a_wTst, a_wTru, a_wAnd, a_wOr, a_wNot, a_wAndV, a_wOrV, a_wNotV, a_wIf, a_wCh, a_wNil, a_wCons, a_wStar, a_wTup, a_wLst, a_wCal, a_wCall, a_wCall0, a_wCallK, a_wCallB, a_wAugC, gInI_i, a_wCalK, a_wSl, a_wNo, a_wPart, a_wFld, a_wMth, a_wM0, a_wM1, a_wgN, a_wgNil, a_wgCons, a_wgT, a_wLc, a_wYes, a_itK, itK_lst, itK_tup, itK_str, seqD_lst, seqD_tup, a_wRg1, a_wRg2, a_wRg3, a_wEnumU, a_wEnumL, a_wZipU, a_wRevU, a_wComb, wipeD, a_mapS, a_map0, a_lenS, a_len0, List.replicate, a_appS, a_app0, a_set0, a_setS, Nat.reduceAdd, Nat.reduceSub, Nat.zero_add, true_and, and_true, gAdd_i, gAdd_s, gAdd_l, gAdd_t, gCat_l, gSub_i, gMul_i, gMul_l, gMul_t, gFdiv_i, gMod_i, gPow_i, gLt_i, gLe_i, gGt_i, gGe_i, gLen_l, gLen_t, gLen_s, gAbs_i, gToInt_i, gToInt_b, gToBl_i, gToBl_b, gToTup_l, gToTup_t, gToLst_l, gToLst_t, gMax2_i, gMin2_i, gNeg_i, gSl_l, gSl_t, gSl_s, gSlL_l, gRevL_l, gIsN_n, gIsN_b, gIsN_i, gIsN_s, gIsN_l, gIsN_t, gNotN_n, gNotN_b, gNotN_i, gNotN_s, gNotN_l, gNotN_t, truD, gEq_int, gNe_int, Bool.not_true, Bool.not_false]
  obtain ⟨oa, ob, oc, od⟩ := ok
  obtain ⟨x0, x1, x2, x3, xl⟩ := dh.oks x (by simp)
  rw [List.map_append]
  have u : ∀ k', (∀ z, z = decide (x.1 * o.2 < ((r.length + 1 : Nat) * o.2 + o.1) * x.2) → k' (.bl z)) → f__law_under [prD x, .tup [.int ((r.length + 1 : Nat) * o.2 + o.1), .int o.2]] k' nE := fun k' h => by
    refine ⟨x, ((r.length + 1 : Nat) * o.2 + o.1, o.2), rfl, ?_, ?_, h _ rfl⟩
    · exact ⟨Nat.lt_trans (show x.1.natAbs < 2 ^ 20 by omega) (by decide +kernel), Nat.lt_trans (show x.2.natAbs < 2 ^ 20 by omega) (by decide +kernel)⟩
    · have q1 : ((r.length + 1 : Nat) : Int) * o.2 ≤ 8 * 1000 := Int.mul_le_mul (by omega) (by omega) (by omega) (by omega)
      have q0 : 0 ≤ ((r.length + 1 : Nat) : Int) * o.2 := Int.mul_nonneg (by omega) (by omega)
      exact ⟨Nat.lt_trans (show (((r.length + 1 : Nat) : Int) * o.2 + o.1).natAbs < 2 ^ 20 by omega) (by decide +kernel), Nat.lt_trans (show o.2.natAbs < 2 ^ 20 by omega) (by decide +kernel)⟩
  refine ⟨prD x, atD_last _, .int o.2, rfl, ?_⟩
  rw [List.length_append, List.length_map, List.map_singleton, List.length_singleton]
  simp only [a_wFn, a_wSeq, a_wNx, a_wBk, a_wCt, a_wEx, a_wSet, a_wOwn, a_wAsg, a_wPar, a_wRet, a_wRetN, a_wRetF, a_wRetFO, a_wParO, a_wFnF, a_wIfS, a_wApp, a_wExt, a_wFrz, a_wAugI, a_wSetIx, a_wAugIx, a_wFor, a_lookL0, a_lookLS, a_look0, a_lookS, a_lookO0, a_lookO1, a_lookOS, a_wV, a_wO, a_wC, a_wBin, a_wUn, a_wTst, a_wTru, a_wAnd, a_wOr, a_wNot, a_wAndV, a_wOrV, a_wNotV, a_wIf, a_wCh, a_wNil, a_wCons, a_wStar, a_wTup, a_wLst, a_wCal, a_wCall, a_wCall0, a_wCallK, a_wCallB, a_wAugC, gInI_i, a_wCalK, a_wSl, a_wNo, a_wPart, a_wFld, a_wMth, a_wM0, a_wM1, a_wgN, a_wgNil, a_wgCons, a_wgT, a_wLc, a_wYes, a_itK, itK_lst, itK_tup, itK_str, seqD_lst, seqD_tup, a_wRg1, a_wRg2, a_wRg3, a_wEnumU, a_wEnumL, a_wZipU, a_wRevU, a_wComb, wipeD, a_mapS, a_map0, a_lenS, a_len0, List.replicate, a_appS, a_app0, a_set0, a_setS, Nat.reduceAdd, Nat.reduceSub, Nat.zero_add, true_and, and_true, gAdd_i, gAdd_s, gAdd_l, gAdd_t, gCat_l, gSub_i, gMul_i, gMul_l, gMul_t, gFdiv_i, gMod_i, gPow_i, gLt_i, gLe_i, gGt_i, gGe_i, gLen_l, gLen_t, gLen_s, gAbs_i, gToInt_i, gToInt_b, gToBl_i, gToBl_b, gToTup_l, gToTup_t, gToLst_l, gToLst_t, gMax2_i, gMin2_i, gNeg_i, gSl_l, gSl_t, gSl_s, gSlL_l, gRevL_l, gIsN_n, gIsN_b, gIsN_i, gIsN_s, gIsN_l, gIsN_t, gNotN_n, gNotN_b, gNotN_i, gNotN_s, gNotN_l, gNotN_t, truD, gEq_int, gNe_int, Bool.not_true, Bool.not_false]
  refine ⟨wide_mul (a := 20) (b := 20) (by omega) (by omega) (by decide) (by decide) (by decide), .int o.1, rfl, ?_⟩
  simp only [a_wFn, a_wSeq, a_wNx, a_wBk, a_wCt, a_wEx, a_wSet, a_wOwn, a_wAsg, a_wPar, a_wRet, a_wRetN, a_wRetF, a_wRetFO, a_wParO, a_wFnF, a_wIfS, a_wApp, a_wExt, a_wFrz, a_wAugI, a_wSetIx, a_wAugIx, a_wFor, a_lookL0, a_lookLS, a_look0, a_lookS, a_lookO0, a_lookO1, a_lookOS, a_wV, a_wO, a_wC, a_wBin, a_wUn, a_wTst, a_wTru, a_wAnd, a_wOr, a_wNot, a_wAndV, a_wOrV, a_wNotV, a_wIf, a_wCh, a_wNil, a_wCons, a_wStar, a_wTup, a_wLst, a_wCal, a_wCall, a_wCall0, a_wCallK, a_wCallB, a_wAugC, gInI_i, a_wCalK, a_wSl, a_wNo, a_wPart, a_wFld, a_wMth, a_wM0, a_wM1, a_wgN, a_wgNil, a_wgCons, a_wgT, a_wLc, a_wYes, a_itK, itK_lst, itK_tup, itK_str, seqD_lst, seqD_tup, a_wRg1, a_wRg2, a_wRg3, a_wEnumU, a_wEnumL, a_wZipU, a_wRevU, a_wComb, wipeD, a_mapS, a_map0, a_lenS, a_len0, List.replicate, a_appS, a_app0, a_set0, a_setS, Nat.reduceAdd, Nat.reduceSub, Nat.zero_add, true_and, and_true, gAdd_i, gAdd_s, gAdd_l, gAdd_t, gCat_l, gSub_i, gMul_i, gMul_l, gMul_t, gFdiv_i, gMod_i, gPow_i, gLt_i, gLe_i, gGt_i, gGe_i, gLen_l, gLen_t, gLen_s, gAbs_i, gToInt_i, gToInt_b, gToBl_i, gToBl_b, gToTup_l, gToTup_t, gToLst_l, gToLst_t, gMax2_i, gMin2_i, gNeg_i, gSl_l, gSl_t, gSl_s, gSlL_l, gRevL_l, gIsN_n, gIsN_b, gIsN_i, gIsN_s, gIsN_l, gIsN_t, gNotN_n, gNotN_b, gNotN_i, gNotN_s, gNotN_l, gNotN_t, truD, gEq_int, gNe_int, Bool.not_true, Bool.not_false]
  refine ⟨.int o.2, rfl, by decide, u _ fun z hz => ?_⟩
  have e3 : r.map prD ++ [prD x] = (r ++ [x]).map prD := by rw [List.map_append, List.map_singleton]
  cases z with
  | true =>
    simp only [Bool.not_true]
    rw [e3]
    refine hk (r ++ [x]) ⟨dh.len, dh.oks, dh.inc, fun m hm => ?_⟩
    rw [List.getLast?_concat] at hm
    cases hm
    have := of_decide_eq_true hz.symm
    show x.1 * o.2 < (o.1 + ((r ++ [x]).length : Nat) * o.2) * x.2
    rw [List.length_append, List.length_singleton, Int.add_comm o.1]
    exact this
  | false =>
    simp only [Bool.not_false]
    rw [cut_last]
    refine hK r.length _ (by rw [← hl, List.length_append, List.length_singleton]; omega) ⟨r, ?_, rfl, _, _, _, _, _, rfl⟩
    have := dh.take r.length
    rwa [List.take_left] at this
theorem cs__law_head (B : Bl mg) (DD : OwnDef K mg "_law_head" s__law_head) (C__law_any : CalG P w K mg base 2 "_law_any" (spW (suR K mg c) 2 f__law_any) []) (C__law_low : CalG P w K mg base 1 "_law_low" (spW (suR K mg c) 2 f__law_low) []) (C__law_under : CalG P w K mg base 1 "_law_under" (spW (suR K mg c) 2 f__law_under) []) (C__law_tap : CalG P w K mg base 1 "_law_tap" (spW (suR K mg c) 2 f__law_tap) [])  : CalG P w K mg base 3 "_law_head" (spW (suR K mg c) 2 f__law_head) [] :=
  (pc__law_head B DD C__law_any C__law_low C__law_under C__law_tap).imp (spW_mono fun ds k e ln h => ok__law_head ds k e ln h)
end

end LW

set_option Elab.async false
set_option linter.all false
set_option maxRecDepth 100000
set_option maxHeartbeats 4000100
set_option exponentiation.threshold 20000
namespace LW
open L2 PySem.Spec PyProof.Rows PySem
abbrev s__law_claim : Stmt := topS 60
theorem sc__law_claim : FnScope ["_law_tank_here", "_law_small", "_law_large", "_law_pair"] ["_law_tank_here"] (defScope s__law_claim) := ⟨rfl, rfl, rfl, by decide +kernel, rfl, by decide +kernel, by decide +kernel⟩
abbrev s__law_claims : Stmt := topS 61
theorem sc__law_claims : FnScope ["_law_tank_here", "_law_most", "_law_found", "_law_k"] ["_law_tank_here", "_law_most"] (defScope s__law_claims) := ⟨rfl, rfl, rfl, by decide +kernel, rfl, by decide +kernel, by decide +kernel⟩
abbrev s__law_just : Stmt := topS 62
theorem sc__law_just : FnScope ["_law_spec_here", "_law_numbers", "_law_counts", "_law_i", "_law_j", "_law_one", "_law_two", "_law_first", "_law_second", "_law_left"] ["_law_spec_here", "_law_numbers", "_law_counts"] (defScope s__law_just) := ⟨rfl, rfl, rfl, by decide +kernel, rfl, by decide +kernel, by decide +kernel⟩
abbrev s__law_all : Stmt := topS 63
theorem sc__law_all : FnScope ["_law_size", "_law_items_here", "_law_found", "_law_first", "_law_rest"] ["_law_size", "_law_items_here"] (defScope s__law_all) := ⟨rfl, rfl, rfl, by decide +kernel, rfl, by decide +kernel, by decide +kernel⟩
abbrev s__law_near : Stmt := topS 64
theorem sc__law_near : FnScope ["_law_tank_here", "_law_numbers", "_law_items_here", "_law_shares", "_law_number", "_law_bottom", "_law_share", "_law_weights", "_law_weight"] ["_law_tank_here", "_law_numbers", "_law_items_here"] (defScope s__law_near) := ⟨rfl, rfl, rfl, by decide +kernel, rfl, by decide +kernel, by decide +kernel⟩
abbrev s__law_right : Stmt := topS 65
theorem sc__law_right : FnScope ["_law_tank_here", "_law_turn", "_law_spec_here", "_law_numbers", "_law_made", "_law_tries", "_law_k", "_law_far", "_law_items_here", "_law_number", "_law_kept", "_law_counts", "_law_due", "_law_answers"] ["_law_tank_here"] (defScope s__law_right) := ⟨rfl, rfl, rfl, by decide +kernel, rfl, by decide +kernel, by decide +kernel⟩
abbrev s_law : Stmt := topS 66
theorem sc_law : FnScope ["_law_script", "_law_k"] ["_law_script"] (defScope s_law) := ⟨rfl, rfl, rfl, by decide +kernel, rfl, by decide +kernel, by decide +kernel⟩
/-! ### the law's rules and claims, drawn -/
section
variable {P : Program} {w : World} {K : PySem.W.Frag} {mg : Str → Option Value} {base : Heap} {c : Addr}
def w__law_spec : WS := (wSeq (wSet 1 (wCall0 2 f__law_any (wCons (wV 0) (wCons (wLst (wCons (wTup (wCons (wC (.int 1)) (wCons (wC (.int 1)) wNil))) (wCons (wTup (wCons (wC (.int 1)) (wCons (wC (.int 2)) wNil))) (wCons (wTup (wCons (wC (.int 0)) (wCons (wC (.int 1)) wNil))) (wCons (wTup (wCons (wC (.int 1)) (wCons (wC (.int 3)) wNil))) (wCons (wTup (wCons (wCall0 2 f__law_tap (wCons (wV 0) (wCons (wC (.int 8)) wNil))) (wCons (wC (.int 7)) wNil))) (wCons (wTup (wCons (wCall0 2 f__law_tap (wCons (wV 0) (wCons (wC (.int 101)) wNil))) (wCons (wC (.int 100)) wNil))) wNil))))))) wNil))))
      (wRet (wTup (wCons (wCall0 2 f__law_low (wCons (wBin gIx (wV 1) (wC (.int 0))) (wCons (wBin gIx (wV 1) (wC (.int 1))) wNil))) (wCons (wCall0 2 f__law_head (wCons (wV 0) (wCons (wV 1) wNil))) wNil)))))
theorem pb__law_spec (B : Bl mg) (C__law_any : CalG P w K mg base 2 "_law_any" (spW (suR K mg c) 2 f__law_any) []) (C__law_low : CalG P w K mg base 1 "_law_low" (spW (suR K mg c) 2 f__law_low) []) (C__law_head : CalG P w K mg base 3 "_law_head" (spW (suR K mg c) 2 f__law_head) []) (C__law_tap : CalG P w K mg base 1 "_law_tap" (spW (suR K mg c) 2 f__law_tap) [])  : Bdy P w K mg base 3 "_law_spec" s__law_spec ["_law_tank_here", "_law_top"] (suR K mg c) w__law_spec := fun f cdv A outer s H E hr quiet =>
      (xsCons (xsSet (i := 1) sc__law_spec.nd rfl (Or.inl rfl) (xCall0 (pe_cG quiet C__law_any hr (by decide) (by rfl) (xACons (xV (pv 0)) (xACons (xf (xLst (xACons (xTup (xACons (xInt pe_int) (xACons (xInt pe_int) xANil))) (xACons (xTup (xACons (xInt pe_int) (xACons (xInt pe_int) xANil))) (xACons (xTup (xACons (xInt pe_int) (xACons (xInt pe_int) xANil))) (xACons (xTup (xACons (xInt pe_int) (xACons (xInt pe_int) xANil))) (xACons (xTup (xACons (xCall0 (pe_cG quiet C__law_tap hr (by decide) (by rfl) (xACons (xV (pv 0)) (xACons (xInt pe_int) xANil)))) (xACons (xInt pe_int) xANil))) (xACons (xTup (xACons (xCall0 (pe_cG quiet C__law_tap hr (by decide) (by rfl) (xACons (xV (pv 0)) (xACons (xInt pe_int) xANil)))) (xACons (xInt pe_int) xANil))) xANil)))))))) xANil)))))
      (xsOne (xsRet (xw (xTup (xACons (xCall0 (pe_cG quiet C__law_low hr (by decide) (by rfl) (xACons (xIx ix_seq pIx (xw (xV (pv 1))) (xw (xInt pe_int)) (fun _ _ => rfl)) (xACons (xIx ix_seq pIx (xw (xV (pv 1))) (xw (xInt pe_int)) (fun _ _ => rfl)) xANil)))) (xACons (xCall0 (pe_cG quiet C__law_head hr (by decide) (by rfl) (xACons (xV (pv 0)) (xACons (xV (pv 1)) xANil)))) xANil)))))))
theorem pc__law_spec (B : Bl mg) (DD : OwnDef K mg "_law_spec" s__law_spec) (C__law_any : CalG P w K mg base 2 "_law_any" (spW (suR K mg c) 2 f__law_any) []) (C__law_low : CalG P w K mg base 1 "_law_low" (spW (suR K mg c) 2 f__law_low) []) (C__law_head : CalG P w K mg base 3 "_law_head" (spW (suR K mg c) 2 f__law_head) []) (C__law_tap : CalG P w K mg base 1 "_law_tap" (spW (suR K mg c) 2 f__law_tap) [])  : CalG P w K mg base 4 "_law_spec" (spW (suR K mg c) 1 (wFn 2 w__law_spec)) [] :=
  calG_by DD sc__law_spec rfl (fun fd f F => F.binds (fun _ _ _ _ _ _ us hl => match us, hl with | [_], _ => rfl)) (pb__law_spec B C__law_any C__law_low C__law_head C__law_tap)
def f__law_spec : SpF := fun ds k _ => ds = [.tnk 0] ∧ ∀ o hd, VR o hd → k (spD o hd)
theorem ok__law_spec (ds k e) (ln : ds.length = 1) (h : f__law_spec ds k e) : wFn 2 w__law_spec ds k e := by
  obtain ⟨rfl, hk⟩ := h
  (simp only [a_wFn, a_wFnF, a_mapS, a_map0, List.replicate, a_appS, a_app0, a_lenS, a_len0, Nat.reduceAdd, Nat.reduceSub, Nat.zero_add]; unfold w__law_spec; simp only [a_wFn, a_wSeq, a_wNx, a_wBk, a_wCt, a_wEx, a_wSet, a_wOwn, a_wAsg, a_wPar, a_wRet, a_wRetN, a_wRetF, a_wRetFO, a_wParO, a_wFnF, a_wIfS, a_wApp, a_wExt, a_wFrz, a_wAugI, a_wSetIx, a_wAugIx, a_wFor, a_lookL0, a_lookLS, a_look0, a_lookS, a_lookO0, a_lookO1, a_lookOS, a_wV, a_wO, a_wC, a_wBin, a_wUn, a_wTst, a_wTru, a_wAnd, a_wOr, a_wNot, a_wAndV, a_wOrV, a_wNotV, a_wIf, a_wCh, a_wNil, a_wCons, a_wStar, a_wTup, a_wLst, a_wCal, a_wCall, a_wCall0, a_wCallK, a_wCallB, a_wAugC, gInI_i, a_wCalK, a_wSl, a_wNo, a_wPart, a_wFld, a_wMth, a_wM0, a_wM1, a_wgN, a_wgNil, a_wgCons, a_wgT, a_wLc, a_wYes, a_itK, itK_lst, itK_tup, itK_str, seqD_lst, seqD_tup, a_wRg1, a_wRg2, a_wRg3, a_wEnumU, a_wEnumL, a_wZipU, a_wRevU, a_wComb, wipeD, a_mapS, a_map0, a_lenS, a_len0, List.replicate, a_appS, a_app0, a_set0, a_setS, Nat.reduceAdd, Nat.reduceSub, Nat.zero_add, true_and, and_true, gAdd_i, gAdd_s, gAdd_l, gAdd_t, gCat_l, gSub_i, gMul_i, gMul_l, gMul_t, gFdiv_i, gMod_i, gPow_i, gLt_i, gLe_i, gGt_i, gGe_i, gLen_l, gLen_t, gLen_s, gAbs_i, gToInt_i, gToInt_b, gToBl_i, gToBl_b, gToTup_l, gToTup_t, gToLst_l, gToLst_t, gMax2_i, gMin2_i, gNeg_i, gSl_l, gSl_t, gSl_s, gSlL_l, gRevL_l, gIsN_n, gIsN_b, gIsN_i, gIsN_s, gIsN_l, gIsN_t, gNotN_n, gNotN_b, gNotN_i, gNotN_s, gNotN_l, gNotN_t, truD, gEq_int, gNe_int, Bool.not_true, Bool.not_false])
  refine ⟨by decide, by decide, by decide, by decide, 8, rfl, by decide, by decide, fun r r0 r1 => ?_⟩
  refine ⟨by decide, 101, rfl, by decide, by decide, fun s s0 s1 => ?_⟩
  refine ⟨by decide, by decide, _, rfl, (show 0 < 6 by decide), (show 6 < 1000 by decide), fun d hd => ?_⟩
  obtain ⟨o, rfl, ok⟩ : ∃ o, d = prD o ∧ OkO o := by
    simp only [List.mem_cons, List.not_mem_nil, or_false] at hd
    rcases hd with rfl | rfl | rfl | rfl | rfl | rfl
    · exact ⟨(1, 1), rfl, by constructor <;> decide⟩
    · exact ⟨(1, 2), rfl, by constructor <;> decide⟩
    · exact ⟨(0, 1), rfl, by constructor <;> decide⟩
    · exact ⟨(1, 3), rfl, by constructor <;> decide⟩
    · exact ⟨(r, 7), rfl, r0, show r ≤ 7 by omega, (show (0 : Int) < 7 by decide), (show (7 : Int) < 1000 by decide)⟩
    · exact ⟨(s, 100), rfl, s0, show s ≤ 100 by omega, (show (0 : Int) < 100 by decide), (show (100 : Int) < 1000 by decide)⟩
  have oc := ok.c
  have od := ok.d
  refine ⟨_, rfl, _, rfl, o.1, o.2, rfl, oc, Nat.lt_trans (show o.2.natAbs < 2 ^ 20 by omega) (by decide +kernel), ?_⟩
  exact ⟨o, rfl, ok, fun hd dh => ⟨by decide, hk _ _ (VR.drawn ok dh)⟩⟩
theorem cs__law_spec (B : Bl mg) (DD : OwnDef K mg "_law_spec" s__law_spec) (C__law_any : CalG P w K mg base 2 "_law_any" (spW (suR K mg c) 2 f__law_any) []) (C__law_low : CalG P w K mg base 1 "_law_low" (spW (suR K mg c) 2 f__law_low) []) (C__law_head : CalG P w K mg base 3 "_law_head" (spW (suR K mg c) 2 f__law_head) []) (C__law_tap : CalG P w K mg base 1 "_law_tap" (spW (suR K mg c) 2 f__law_tap) [])  : CalG P w K mg base 4 "_law_spec" (spW (suR K mg c) 1 f__law_spec) [] :=
  (pc__law_spec B DD C__law_any C__law_low C__law_head C__law_tap).imp (spW_mono fun ds k e ln h => ok__law_spec ds k e ln h)
def w__law_claim : WS := (wSeq (wPar 1 2 (wCons (wBin LW.gAdd (wC (.int 1)) (wCall0 2 f__law_tap (wCons (wV 0) (wCons (wC (.int 12)) wNil)))) (wCons (wBin LW.gAdd (wC (.int 1)) (wCall0 2 f__law_tap (wCons (wV 0) (wCons (wBin LW.gPow (wC (.int 10)) (wC (.int 9))) wNil)))) wNil)))
      (wSeq (wSet 3 (wTup (wCons (wV 1) (wCons (wBin LW.gAdd (wC (.int 1)) (wCall0 2 f__law_tap (wCons (wV 0) (wCons (wC (.int 6)) wNil)))) wNil))))
      (wRet (wCall0 2 f__law_any (wCons (wV 0) (wCons (wLst (wCons (wV 1) (wCons (wV 1) (wCons (wV 1) (wCons (wV 2) (wCons (wV 3) (wCons (wTup (wCons (wV 2) (wCons (wC (.int 7)) wNil))) (wCons (wTup (wCons (wC (.int 6)) (wCons (wC (.int 4)) wNil))) (wCons (wBin LW.gAdd (wBin LW.gPow (wC (.int 10)) (wC (.int 30))) (wV 1)) wNil))))))))) wNil))))))
theorem pb__law_claim (B : Bl mg) (C__law_any : CalG P w K mg base 2 "_law_any" (spW (suR K mg c) 2 f__law_any) []) (C__law_tap : CalG P w K mg base 1 "_law_tap" (spW (suR K mg c) 2 f__law_tap) [])  : Bdy P w K mg base 2 "_law_claim" s__law_claim ["_law_tank_here", "_law_small", "_law_large", "_law_pair"] (suR K mg c) w__law_claim := fun f cdv A outer s H E hr quiet =>
      (xsCons (xsPar (i := 1) (j := 2) (by rfl) sc__law_claim.nd rfl rfl (by decide) rfl rfl (xACons (xBin op_addU pAdd (xw (xInt pe_int)) (xw (xCall0 (pe_cG quiet C__law_tap hr (by decide) (by rfl) (xACons (xV (pv 0)) (xACons (xInt pe_int) xANil)))))) (xACons (xBin op_addU pAdd (xw (xInt pe_int)) (xw (xCall0 (pe_cG quiet C__law_tap hr (by decide) (by rfl) (xACons (xV (pv 0)) (xACons (xBin op_pow pPow (xw (xInt pe_int)) (xw (xInt pe_int))) xANil)))))) xANil)) (by rfl))
      (xsCons (xsSet (i := 3) sc__law_claim.nd rfl (Or.inl rfl) (xTup (xACons (xV (pv 1)) (xACons (xBin op_addU pAdd (xw (xInt pe_int)) (xw (xCall0 (pe_cG quiet C__law_tap hr (by decide) (by rfl) (xACons (xV (pv 0)) (xACons (xInt pe_int) xANil)))))) xANil))))
      (xsOne (xsRet (xw (xCall0 (pe_cG quiet C__law_any hr (by decide) (by rfl) (xACons (xV (pv 0)) (xACons (xf (xLst (xACons (xV (pv 1)) (xACons (xV (pv 1)) (xACons (xV (pv 1)) (xACons (xV (pv 2)) (xACons (xV (pv 3)) (xACons (xTup (xACons (xV (pv 2)) (xACons (xInt pe_int) xANil))) (xACons (xTup (xACons (xInt pe_int) (xACons (xInt pe_int) xANil))) (xACons (xBin op_addU pAdd (xw (xBin op_pow pPow (xw (xInt pe_int)) (xw (xInt pe_int)))) (xw (xV (pv 1)))) xANil)))))))))) xANil)))))))))
theorem pc__law_claim (B : Bl mg) (DD : OwnDef K mg "_law_claim" s__law_claim) (C__law_any : CalG P w K mg base 2 "_law_any" (spW (suR K mg c) 2 f__law_any) []) (C__law_tap : CalG P w K mg base 1 "_law_tap" (spW (suR K mg c) 2 f__law_tap) [])  : CalG P w K mg base 3 "_law_claim" (spW (suR K mg c) 1 (wFn 4 w__law_claim)) [] :=
  calG_by DD sc__law_claim rfl (fun fd f F => F.binds (fun _ _ _ _ _ _ us hl => match us, hl with | [_], _ => rfl)) (pb__law_claim B C__law_any C__law_tap)
/-- a claim that is drawn -/
structure Sml (q : Int × Int) : Prop where
  a : 0 < q.1
  a2 : q.1 < 2 ^ 100
  b : 0 < q.2
  b2 : q.2 < 2 ^ 20
def f__law_claim : SpF := fun ds k _ => ds = [.tnk 0] ∧ ∀ d q, numD d = some q → Sml q → k d
theorem ok__law_claim (ds k e) (ln : ds.length = 1) (h : f__law_claim ds k e) : wFn 4 w__law_claim ds k e := by
  obtain ⟨rfl, hk⟩ := h
  (simp only [a_wFn, a_wFnF, a_mapS, a_map0, List.replicate, a_appS, a_app0, a_lenS, a_len0, Nat.reduceAdd, Nat.reduceSub, Nat.zero_add]; unfold w__law_claim; simp only [a_wFn, a_wSeq, a_wNx, a_wBk, a_wCt, a_wEx, a_wSet, a_wOwn, a_wAsg, a_wPar, a_wRet, a_wRetN, a_wRetF, a_wRetFO, a_wParO, a_wFnF, a_wIfS, a_wApp, a_wExt, a_wFrz, a_wAugI, a_wSetIx, a_wAugIx, a_wFor, a_lookL0, a_lookLS, a_look0, a_lookS, a_lookO0, a_lookO1, a_lookOS, a_wV, a_wO, a_wC, a_wBin, a_wUn, a_wTst, a_wTru, a_wAnd, a_wOr, a_wNot, a_wAndV, a_wOrV, a_wNotV, a_wIf, a_wCh, a_wNil, a_wCons, a_wStar, a_wTup, a_wLst, a_wCal, a_wCall, a_wCall0, a_wCallK, a_wCallB, a_wAugC, gInI_i, a_wCalK, a_wSl, a_wNo, a_wPart, a_wFld, a_wMth, a_wM0, a_wM1, a_wgN, a_wgNil, a_wgCons, a_wgT, a_wLc, a_wYes, a_itK, itK_lst, itK_tup, itK_str, seqD_lst, seqD_tup, a_wRg1, a_wRg2, a_wRg3, a_wEnumU, a_wEnumL, a_wZipU, a_wRevU, a_wComb, wipeD, a_mapS, a_map0, a_lenS, a_len0, List.replicate, a_appS, a_app0, a_set0, a_setS, Nat.reduceAdd, Nat.reduceSub, Nat.zero_add, true_and, and_true, gAdd_i, gAdd_s, gAdd_l, gAdd_t, gCat_l, gSub_i, gMul_i, gMul_l, gMul_t, gFdiv_i, gMod_i, gPow_i, gLt_i, gLe_i, gGt_i, gGe_i, gLen_l, gLen_t, gLen_s, gAbs_i, gToInt_i, gToInt_b, gToBl_i, gToBl_b, gToTup_l, gToTup_t, gToLst_l, gToLst_t, gMax2_i, gMin2_i, gNeg_i, gSl_l, gSl_t, gSl_s, gSlL_l, gRevL_l, gIsN_n, gIsN_b, gIsN_i, gIsN_s, gIsN_l, gIsN_t, gNotN_n, gNotN_b, gNotN_i, gNotN_s, gNotN_l, gNotN_t, truD, gEq_int, gNe_int, Bool.not_true, Bool.not_false])
  refine ⟨12, rfl, by decide, by decide, fun s s0 s1 => ?_⟩
  simp only [a_wFn, a_wSeq, a_wNx, a_wBk, a_wCt, a_wEx, a_wSet, a_wOwn, a_wAsg, a_wPar, a_wRet, a_wRetN, a_wRetF, a_wRetFO, a_wParO, a_wFnF, a_wIfS, a_wApp, a_wExt, a_wFrz, a_wAugI, a_wSetIx, a_wAugIx, a_wFor, a_lookL0, a_lookLS, a_look0, a_lookS, a_lookO0, a_lookO1, a_lookOS, a_wV, a_wO, a_wC, a_wBin, a_wUn, a_wTst, a_wTru, a_wAnd, a_wOr, a_wNot, a_wAndV, a_wOrV, a_wNotV, a_wIf, a_wCh, a_wNil, a_wCons, a_wStar, a_wTup, a_wLst, a_wCal, a_wCall, a_wCall0, a_wCallK, a_wCallB, a_wAugC, gInI_i, a_wCalK, a_wSl, a_wNo, a_wPart, a_wFld, a_wMth, a_wM0, a_wM1, a_wgN, a_wgNil, a_wgCons, a_wgT, a_wLc, a_wYes, a_itK, itK_lst, itK_tup, itK_str, seqD_lst, seqD_tup, a_wRg1, a_wRg2, a_wRg3, a_wEnumU, a_wEnumL, a_wZipU, a_wRevU, a_wComb, wipeD, a_mapS, a_map0, a_lenS, a_len0, List.replicate, a_appS, a_app0, a_set0, a_setS, Nat.reduceAdd, Nat.reduceSub, Nat.zero_add, true_and, and_true, gAdd_i, gAdd_s, gAdd_l, gAdd_t, gCat_l, gSub_i, gMul_i, gMul_l, gMul_t, gFdiv_i, gMod_i, gPow_i, gLt_i, gLe_i, gGt_i, gGe_i, gLen_l, gLen_t, gLen_s, gAbs_i, gToInt_i, gToInt_b, gToBl_i, gToBl_b, gToTup_l, gToTup_t, gToLst_l, gToLst_t, gMax2_i, gMin2_i, gNeg_i, gSl_l, gSl_t, gSl_s, gSlL_l, gRevL_l, gIsN_n, gIsN_b, gIsN_i, gIsN_s, gIsN_l, gIsN_t, gNotN_n, gNotN_b, gNotN_i, gNotN_s, gNotN_l, gNotN_t, truD, gEq_int, gNe_int, Bool.not_true, Bool.not_false]
  refine ⟨⟨by decide, by decide, by decide⟩, (10 : Int) ^ 9, rfl, by decide, by decide, fun l l0 l1 => ?_⟩
  simp only [a_wFn, a_wSeq, a_wNx, a_wBk, a_wCt, a_wEx, a_wSet, a_wOwn, a_wAsg, a_wPar, a_wRet, a_wRetN, a_wRetF, a_wRetFO, a_wParO, a_wFnF, a_wIfS, a_wApp, a_wExt, a_wFrz, a_wAugI, a_wSetIx, a_wAugIx, a_wFor, a_lookL0, a_lookLS, a_look0, a_lookS, a_lookO0, a_lookO1, a_lookOS, a_wV, a_wO, a_wC, a_wBin, a_wUn, a_wTst, a_wTru, a_wAnd, a_wOr, a_wNot, a_wAndV, a_wOrV, a_wNotV, a_wIf, a_wCh, a_wNil, a_wCons, a_wStar, a_wTup, a_wLst, a_wCal, a_wCall, a_wCall0, a_wCallK, a_wCallB, a_wAugC, gInI_i, a_wCalK, a_wSl, a_wNo, a_wPart, a_wFld, a_wMth, a_wM0, a_wM1, a_wgN, a_wgNil, a_wgCons, a_wgT, a_wLc, a_wYes, a_itK, itK_lst, itK_tup, itK_str, seqD_lst, seqD_tup, a_wRg1, a_wRg2, a_wRg3, a_wEnumU, a_wEnumL, a_wZipU, a_wRevU, a_wComb, wipeD, a_mapS, a_map0, a_lenS, a_len0, List.replicate, a_appS, a_app0, a_set0, a_setS, Nat.reduceAdd, Nat.reduceSub, Nat.zero_add, true_and, and_true, gAdd_i, gAdd_s, gAdd_l, gAdd_t, gCat_l, gSub_i, gMul_i, gMul_l, gMul_t, gFdiv_i, gMod_i, gPow_i, gLt_i, gLe_i, gGt_i, gGe_i, gLen_l, gLen_t, gLen_s, gAbs_i, gToInt_i, gToInt_b, gToBl_i, gToBl_b, gToTup_l, gToTup_t, gToLst_l, gToLst_t, gMax2_i, gMin2_i, gNeg_i, gSl_l, gSl_t, gSl_s, gSlL_l, gRevL_l, gIsN_n, gIsN_b, gIsN_i, gIsN_s, gIsN_l, gIsN_t, gNotN_n, gNotN_b, gNotN_i, gNotN_s, gNotN_l, gNotN_t, truD, gEq_int, gNe_int, Bool.not_true, Bool.not_false]
  refine ⟨6, rfl, by decide, by decide, fun b b0 b1 => ?_⟩
  simp only [a_wFn, a_wSeq, a_wNx, a_wBk, a_wCt, a_wEx, a_wSet, a_wOwn, a_wAsg, a_wPar, a_wRet, a_wRetN, a_wRetF, a_wRetFO, a_wParO, a_wFnF, a_wIfS, a_wApp, a_wExt, a_wFrz, a_wAugI, a_wSetIx, a_wAugIx, a_wFor, a_lookL0, a_lookLS, a_look0, a_lookS, a_lookO0, a_lookO1, a_lookOS, a_wV, a_wO, a_wC, a_wBin, a_wUn, a_wTst, a_wTru, a_wAnd, a_wOr, a_wNot, a_wAndV, a_wOrV, a_wNotV, a_wIf, a_wCh, a_wNil, a_wCons, a_wStar, a_wTup, a_wLst, a_wCal, a_wCall, a_wCall0, a_wCallK, a_wCallB, a_wAugC, gInI_i, a_wCalK, a_wSl, a_wNo, a_wPart, a_wFld, a_wMth, a_wM0, a_wM1, a_wgN, a_wgNil, a_wgCons, a_wgT, a_wLc, a_wYes, a_itK, itK_lst, itK_tup, itK_str, seqD_lst, seqD_tup, a_wRg1, a_wRg2, a_wRg3, a_wEnumU, a_wEnumL, a_wZipU, a_wRevU, a_wComb, wipeD, a_mapS, a_map0, a_lenS, a_len0, List.replicate, a_appS, a_app0, a_set0, a_setS, Nat.reduceAdd, Nat.reduceSub, Nat.zero_add, true_and, and_true, gAdd_i, gAdd_s, gAdd_l, gAdd_t, gCat_l, gSub_i, gMul_i, gMul_l, gMul_t, gFdiv_i, gMod_i, gPow_i, gLt_i, gLe_i, gGt_i, gGe_i, gLen_l, gLen_t, gLen_s, gAbs_i, gToInt_i, gToInt_b, gToBl_i, gToBl_b, gToTup_l, gToTup_t, gToLst_l, gToLst_t, gMax2_i, gMin2_i, gNeg_i, gSl_l, gSl_t, gSl_s, gSlL_l, gRevL_l, gIsN_n, gIsN_b, gIsN_i, gIsN_s, gIsN_l, gIsN_t, gNotN_n, gNotN_b, gNotN_i, gNotN_s, gNotN_l, gNotN_t, truD, gEq_int, gNe_int, Bool.not_true, Bool.not_false]
  refine ⟨by decide, by decide, by decide, ⟨by decide, by decide, by decide⟩, by decide, _, rfl, (show 0 < 8 by decide), (show 8 < 1000 by decide), fun d hd => ?_⟩
  have t9 : (10 : Int) ^ 9 = 1000000000 := by decide
  rw [t9] at l1
  have t30 : (10 : Int) ^ 30 = 1000000000000000000000000000000 := by decide
  have t100 : (2 : Int) ^ 100 = 1267650600228229401496703205376 := by decide
  have t20 : (2 : Int) ^ 20 = 1048576 := by decide
  simp only [List.mem_cons, List.not_mem_nil, or_false] at hd
  have sm : ∀ q : Int × Int, 0 < q.1 → q.1 < 1267650600228229401496703205376 → 0 < q.2 → q.2 < 1048576 → Sml q := fun q h1 h2 h3 h4 => ⟨h1, by rw [t100]; exact h2, h3, by rw [t20]; exact h4⟩
  have i1 : Sml (1 + s, 1) := sm _ (by show 0 < 1 + s; omega) (by show 1 + s < _; omega) (show (0 : Int) < 1 by decide) (show (1 : Int) < 1048576 by decide)
  rcases hd with rfl | rfl | rfl | rfl | rfl | rfl | rfl | rfl
  · exact hk _ _ rfl i1
  · exact hk _ _ rfl i1
  · exact hk _ _ rfl i1
  · exact hk _ (1 + l, 1) rfl (sm _ (by show 0 < 1 + l; omega) (by show 1 + l < _; omega) (show (0 : Int) < 1 by decide) (show (1 : Int) < 1048576 by decide))
  · exact hk _ (1 + s, 1 + b) rfl (sm _ (by show 0 < 1 + s; omega) (by show 1 + s < _; omega) (by show 0 < 1 + b; omega) (by show 1 + b < _; omega))
  · exact hk _ (1 + l, 7) rfl (sm _ (by show 0 < 1 + l; omega) (by show 1 + l < _; omega) (show (0 : Int) < 7 by decide) (show (7 : Int) < 1048576 by decide))
  · exact hk _ (6, 4) rfl (sm _ (by decide) (by decide) (by decide) (by decide))
  · refine hk _ ((10 : Int) ^ 30 + (1 + s), 1) rfl (sm _ ?_ ?_ (show (0 : Int) < 1 by decide) (show (1 : Int) < 1048576 by decide))
    · show 0 < (10 : Int) ^ 30 + (1 + s)
      rw [t30]; omega
    · show (10 : Int) ^ 30 + (1 + s) < _
      rw [t30]; omega
theorem cs__law_claim (B : Bl mg) (DD : OwnDef K mg "_law_claim" s__law_claim) (C__law_any : CalG P w K mg base 2 "_law_any" (spW (suR K mg c) 2 f__law_any) []) (C__law_tap : CalG P w K mg base 1 "_law_tap" (spW (suR K mg c) 2 f__law_tap) [])  : CalG P w K mg base 3 "_law_claim" (spW (suR K mg c) 1 f__law_claim) [] :=
  (pc__law_claim B DD C__law_any C__law_tap).imp (spW_mono fun ds k e ln h => ok__law_claim ds k e ln h)
def w__law_claims : WS := (wSeq (wOwn 2 (wLst (wCons (wCall0 1 f__law_claim (wCons (wV 0) wNil)) wNil)))
      (wSeq (wFor (wRg1 (wCall0 2 f__law_tap (wCons (wV 0) (wCons (wV 1) wNil)))) (wgN 3)
      (wApp 2 (wIf (wTst (wBin gEq (wCall0 2 f__law_tap (wCons (wV 0) (wCons (wC (.int 4)) wNil))) (wC (.int 0)))) (wBin gIx (wO 2) (wUn gNeg (wC (.int 1)))) (wCall0 1 f__law_claim (wCons (wV 0) wNil)))))
      (wRet (wCal gToTup (wCons (wO 2) wNil)))))
theorem pb__law_claims (B : Bl mg) (C__law_claim : CalG P w K mg base 3 "_law_claim" (spW (suR K mg c) 1 f__law_claim) []) (C__law_tap : CalG P w K mg base 1 "_law_tap" (spW (suR K mg c) 2 f__law_tap) [])  : Bdy P w K mg base 3 "_law_claims" s__law_claims ["_law_tank_here", "_law_most", "_law_found", "_law_k"] (suR K mg c) w__law_claims := fun f cdv A outer s H E hr quiet =>
      (xsCons (xsOwn (i := 2) sc__law_claims.nd rfl (Or.inl rfl) (xLst (xACons (xCall0 (pe_cG quiet C__law_claim hr (by decide) (by rfl) (xACons (xV (pv 0)) xANil))) xANil)))
      (xsCons (xsFor PassesOwn.never (by rfl) (xRg1 (by rfl) B.range (xCall0 (pe_cG quiet C__law_tap hr (by decide) (by rfl) (xACons (xV (pv 0)) (xACons (xV (pv 1)) xANil))))) (xgN (pg_name (i := 3) sc__law_claims.nd rfl (Or.inl rfl)))
      (xsOne (xsApp (pe_bm PySem.F.plainAttrs_list PySem.F.slot_list_append PySem.F.type_list_append mt_append (pv 2) (pa_cons (xIf (xTCmp (op_eqD hr.units) pEq (xw (xCall0 (pe_cG quiet C__law_tap hr (by decide) (by rfl) (xACons (xV (pv 0)) (xACons (xInt pe_int) xANil))))) (xw (xInt pe_int)) (nomark _)) (xIx ix_seq pIx (xO (pv 2)) (xw (xNeg (xw (xInt pe_int)))) (fun _ _ => rfl)) (xCall0 (pe_cG quiet C__law_claim hr (by decide) (by rfl) (xACons (xV (pv 0)) xANil)))) pa_nil)))))
      (xsOne (xsRet (xw (xCB (pe_callTy call_tuple_of (by rfl) B.tuple (by decide +kernel) (xWCons (xO (pv 2)) xWNil)) pToTup))))))
theorem pc__law_claims (B : Bl mg) (DD : OwnDef K mg "_law_claims" s__law_claims) (C__law_claim : CalG P w K mg base 3 "_law_claim" (spW (suR K mg c) 1 f__law_claim) []) (C__law_tap : CalG P w K mg base 1 "_law_tap" (spW (suR K mg c) 2 f__law_tap) [])  : CalG P w K mg base 4 "_law_claims" (spW (suR K mg c) 2 (wFn 4 w__law_claims)) [] :=
  calG_by DD sc__law_claims rfl (fun fd f F => F.binds (fun _ _ _ _ _ _ us hl => match us, hl with | [_, _], _ => rfl)) (pb__law_claims B C__law_claim C__law_tap)
/-- drawn claims, as they stand and as pairs -/
structure Cls6 (l : List Dt) (qs : List (Int × Int)) : Prop where
  num : l.map numD = qs.map some
  sml : ∀ q ∈ qs, Sml q
theorem Cls6.len {l : List Dt} {qs : List (Int × Int)} (h : Cls6 l qs) : l.length = qs.length := nums_len h.num
theorem Cls6.snoc {l : List Dt} {qs : List (Int × Int)} (h : Cls6 l qs) {d : Dt} {q : Int × Int} (hd : numD d = some q) (hq : Sml q) : Cls6 (l ++ [d]) (qs ++ [q]) := ⟨by rw [List.map_append, List.map_append, h.num]; simp [hd], fun p hp => by
  rcases List.mem_append.mp
        hp with z | z
  · exact h.sml p z
  · rw [List.mem_singleton.mp z]; exact hq⟩
theorem Cls6.clm {l : List Dt} {qs : List (Int × Int)} (h : Cls6 l qs) (l1 : 1 ≤ l.length) (l6 : l.length ≤ 6) : Clm l qs := ⟨h.num, l1, l6, fun q hq => by
  obtain ⟨a, a2, b, b2⟩ := h.sml q hq
  have t100 : (2 : Int) ^ 100 = 1267650600228229401496703205376 := by decide
  have t20 : (2 : Int) ^ 20 = 1048576 := by decide
  rw [t100] at a2
  rw [t20] at b2
  exact ⟨a, Nat.lt_trans (show q.1.natAbs < 2 ^ 101 by omega) (by decide +kernel), b, Nat.lt_trans (show q.2.natAbs < 2 ^ 21 by omega) (by decide +kernel)⟩⟩
def f__law_claims : SpF := fun ds k _ => ∃ m : Int, ds = [.tnk 0, .int m] ∧ 1 ≤ m ∧ m ≤ 6 ∧ ∀ l qs, Cls6 l qs → 1 ≤ l.length → (l.length : Int) ≤ m → k (.tup l)
theorem ok__law_claims (ds k e) (ln : ds.length = 2) (h : f__law_claims ds k e) : wFn 4 w__law_claims ds k e := by
  obtain ⟨m, rfl, m1, m6, hk⟩ := h
  (simp only [a_wFn, a_wFnF, a_mapS, a_map0, List.replicate, a_appS, a_app0, a_lenS, a_len0, Nat.reduceAdd, Nat.reduceSub, Nat.zero_add]; unfold w__law_claims; simp only [a_wFn, a_wSeq, a_wNx, a_wBk, a_wCt, a_wEx, a_wSet, a_wOwn, a_wAsg, a_wPar, a_wRet, a_wRetN, a_wRetF, a_wRetFO, a_wParO, a_wFnF, a_wIfS, a_wApp, a_wExt, a_wFrz, a_wAugI, a_wSetIx, a_wAugIx, a_wFor, a_lookL0, a_lookLS, a_look0, a_lookS, a_lookO0, a_lookO1, a_lookOS, a_wV, a_wO, a_wC, a_wBin, a_wUn, a_wTst, a_wTru, a_wAnd, a_wOr, a_wNot, a_wAndV, a_wOrV, a_wNotV, a_wIf, a_wCh, a_wNil, a_wCons, a_wStar, a_wTup, a_wLst, a_wCal, a_wCall, a_wCall0, a_wCallK, a_wCallB, a_wAugC, gInI_i, a_wCalK, a_wSl, a_wNo, a_wPart, a_wFld, a_wMth, a_wM0, a_wM1, a_wgN, a_wgNil, a_wgCons, a_wgT, a_wLc, a_wYes, a_itK, itK_lst, itK_tup, itK_str, seqD_lst, seqD_tup, a_wRg1, a_wRg2, a_wRg3, a_wEnumU, a_wEnumL, a_wZipU, a_wRevU, a_wComb, wipeD, a_mapS, a_map0, a_lenS, a_len0, List.replicate, a_appS, a_app0, a_set0, a_setS, Nat.reduceAdd, Nat.reduceSub, Nat.zero_add, true_and, and_true, gAdd_i, gAdd_s, gAdd_l, gAdd_t, gCat_l, gSub_i, gMul_i, gMul_l, gMul_t, gFdiv_i, gMod_i, gPow_i, gLt_i, gLe_i, gGt_i, gGe_i, gLen_l, gLen_t, gLen_s, gAbs_i, gToInt_i, gToInt_b, gToBl_i, gToBl_b, gToTup_l, gToTup_t, gToLst_l, gToLst_t, gMax2_i, gMin2_i, gNeg_i, gSl_l, gSl_t, gSl_s, gSlL_l, gRevL_l, gIsN_n, gIsN_b, gIsN_i, gIsN_s, gIsN_l, gIsN_t, gNotN_n, gNotN_b, gNotN_i, gNotN_s, gNotN_l, gNotN_t, truD, gEq_int, gNe_int, Bool.not_true, Bool.not_false])
  refine ⟨rfl, fun d q hd hq => ⟨by decide, m, rfl, by omega, by omega, fun r r0 r1 => ?_⟩⟩
  simp only [a_wFn, a_wSeq, a_wNx, a_wBk, a_wCt, a_wEx, a_wSet, a_wOwn, a_wAsg, a_wPar, a_wRet, a_wRetN, a_wRetF, a_wRetFO, a_wParO, a_wFnF, a_wIfS, a_wApp, a_wExt, a_wFrz, a_wAugI, a_wSetIx, a_wAugIx, a_wFor, a_lookL0, a_lookLS, a_look0, a_lookS, a_lookO0, a_lookO1, a_lookOS, a_wV, a_wO, a_wC, a_wBin, a_wUn, a_wTst, a_wTru, a_wAnd, a_wOr, a_wNot, a_wAndV, a_wOrV, a_wNotV, a_wIf, a_wCh, a_wNil, a_wCons, a_wStar, a_wTup, a_wLst, a_wCal, a_wCall, a_wCall0, a_wCallK, a_wCallB, a_wAugC, gInI_i, a_wCalK, a_wSl, a_wNo, a_wPart, a_wFld, a_wMth, a_wM0, a_wM1, a_wgN, a_wgNil, a_wgCons, a_wgT, a_wLc, a_wYes, a_itK, itK_lst, itK_tup, itK_str, seqD_lst, seqD_tup, a_wRg1, a_wRg2, a_wRg3, a_wEnumU, a_wEnumL, a_wZipU, a_wRevU, a_wComb, wipeD, a_mapS, a_map0, a_lenS, a_len0, List.replicate, a_appS, a_app0, a_set0, a_setS, Nat.reduceAdd, Nat.reduceSub, Nat.zero_add, true_and, and_true, gAdd_i, gAdd_s, gAdd_l, gAdd_t, gCat_l, gSub_i, gMul_i, gMul_l, gMul_t, gFdiv_i, gMod_i, gPow_i, gLt_i, gLe_i, gGt_i, gGe_i, gLen_l, gLen_t, gLen_s, gAbs_i, gToInt_i, gToInt_b, gToBl_i, gToBl_b, gToTup_l, gToTup_t, gToLst_l, gToLst_t, gMax2_i, gMin2_i, gNeg_i, gSl_l, gSl_t, gSl_s, gSlL_l, gRevL_l, gIsN_n, gIsN_b, gIsN_i, gIsN_s, gIsN_l, gIsN_t, gNotN_n, gNotN_b, gNotN_i, gNotN_s, gNotN_l, gNotN_t, truD, gEq_int, gNe_int, Bool.not_true, Bool.not_false]
  refine ⟨by omega, by
        omega, ?_⟩
  refine forL_by (fun i δ => ∃ l qs a, δ = [some (.val (.tnk 0)), some (.val (.int m)), some (.own l), a] ∧ Cls6 l qs ∧ l.length = i + 1) ⟨[d], [q], _, rfl, ⟨by simp [hd], fun p hp => by rw [List.mem_singleton.mp hp]; exact hq⟩, rfl⟩ (fun i x δ K hx hI hK => ?_) fun δ hI => ?_
  · obtain ⟨l, qs, a, rfl, cs, ll⟩ := hI
    obtain ⟨hi, rfl⟩ := rgI_at hx
    have lz : l.length < sizeLine := by rw [sizeLine_eq]; omega
    simp only [a_wFn, a_wSeq, a_wNx, a_wBk, a_wCt, a_wEx, a_wSet, a_wOwn, a_wAsg, a_wPar, a_wRet, a_wRetN, a_wRetF, a_wRetFO, a_wParO, a_wFnF, a_wIfS, a_wApp, a_wExt, a_wFrz, a_wAugI, a_wSetIx, a_wAugIx, a_wFor, a_lookL0, a_lookLS, a_look0, a_lookS, a_lookO0, a_lookO1, a_lookOS, a_wV, a_wO, a_wC, a_wBin, a_wUn, a_wTst, a_wTru, a_wAnd, a_wOr, a_wNot, a_wAndV, a_wOrV, a_wNotV, a_wIf, a_wCh, a_wNil, a_wCons, a_wStar, a_wTup, a_wLst, a_wCal, a_wCall, a_wCall0, a_wCallK, a_wCallB, a_wAugC, gInI_i, a_wCalK, a_wSl, a_wNo, a_wPart, a_wFld, a_wMth, a_wM0, a_wM1, a_wgN, a_wgNil, a_wgCons, a_wgT, a_wLc, a_wYes, a_itK, itK_lst, itK_tup, itK_str, seqD_lst, seqD_tup, a_wRg1, a_wRg2, a_wRg3, a_wEnumU, a_wEnumL, a_wZipU, a_wRevU, a_wComb, wipeD, a_mapS, a_map0, a_lenS, a_len0, List.replicate, a_appS, a_app0, a_set0, a_setS, Nat.reduceAdd, Nat.reduceSub, Nat.zero_add, true_and, and_true, gAdd_i, gAdd_s, gAdd_l, gAdd_t, gCat_l, gSub_i, gMul_i, gMul_l, gMul_t, gFdiv_i, gMod_i, gPow_i, gLt_i, gLe_i, gGt_i, gGe_i, gLen_l, gLen_t, gLen_s, gAbs_i, gToInt_i, gToInt_b, gToBl_i, gToBl_b, gToTup_l, gToTup_t, gToLst_l, gToLst_t, gMax2_i, gMin2_i, gNeg_i, gSl_l, gSl_t, gSl_s, gSlL_l, gRevL_l, gIsN_n, gIsN_b, gIsN_i, gIsN_s, gIsN_l, gIsN_t, gNotN_n, gNotN_b, gNotN_i, gNotN_s, gNotN_l, gNotN_t, truD, gEq_int, gNe_int, Bool.not_true, Bool.not_false]
    refine ⟨4, rfl, by decide, by decide, fun t t0 t1 => ?_⟩
    simp only [a_wFn, a_wSeq, a_wNx, a_wBk, a_wCt, a_wEx, a_wSet, a_wOwn, a_wAsg, a_wPar, a_wRet, a_wRetN, a_wRetF, a_wRetFO, a_wParO, a_wFnF, a_wIfS, a_wApp, a_wExt, a_wFrz, a_wAugI, a_wSetIx, a_wAugIx, a_wFor, a_lookL0, a_lookLS, a_look0, a_lookS, a_lookO0, a_lookO1, a_lookOS, a_wV, a_wO, a_wC, a_wBin, a_wUn, a_wTst, a_wTru, a_wAnd, a_wOr, a_wNot, a_wAndV, a_wOrV, a_wNotV, a_wIf, a_wCh, a_wNil, a_wCons, a_wStar, a_wTup, a_wLst, a_wCal, a_wCall, a_wCall0, a_wCallK, a_wCallB, a_wAugC, gInI_i, a_wCalK, a_wSl, a_wNo, a_wPart, a_wFld, a_wMth, a_wM0, a_wM1, a_wgN, a_wgNil, a_wgCons, a_wgT, a_wLc, a_wYes, a_itK, itK_lst, itK_tup, itK_str, seqD_lst, seqD_tup, a_wRg1, a_wRg2, a_wRg3, a_wEnumU, a_wEnumL, a_wZipU, a_wRevU, a_wComb, wipeD, a_mapS, a_map0, a_lenS, a_len0, List.replicate, a_appS, a_app0, a_set0, a_setS, Nat.reduceAdd, Nat.reduceSub, Nat.zero_add, true_and, and_true, gAdd_i, gAdd_s, gAdd_l, gAdd_t, gCat_l, gSub_i, gMul_i, gMul_l, gMul_t, gFdiv_i, gMod_i, gPow_i, gLt_i, gLe_i, gGt_i, gGe_i, gLen_l, gLen_t, gLen_s, gAbs_i, gToInt_i, gToInt_b, gToBl_i, gToBl_b, gToTup_l, gToTup_t, gToLst_l, gToLst_t, gMax2_i, gMin2_i, gNeg_i, gSl_l, gSl_t, gSl_s, gSlL_l, gRevL_l, gIsN_n, gIsN_b, gIsN_i, gIsN_s, gIsN_l, gIsN_t, gNotN_n, gNotN_b, gNotN_i, gNotN_s, gNotN_l, gNotN_t, truD, gEq_int, gNe_int, Bool.not_true, Bool.not_false]
    cases decide (t = 0) with
    | true =>
      obtain ⟨r, x, rfl⟩ := cons_last (l := l) (fun z => by subst z; simp at ll)
      have qn : qs ≠ [] := fun z => by subst z; have := cs.len; simp at this
      obtain ⟨r2, y, rfl⟩ := cons_last qn
      have e1 : numD x = some y := by
        have := cs.num
        rw [List.map_append, List.map_append] at this
        exact List.singleton_inj.mp ((List.append_inj_right' this (by simp)))
      exact ⟨x, atD_last _, lz, hK _ ⟨_, _, _, rfl, cs.snoc e1 (cs.sml y (by simp)), by simp at ll ⊢; omega⟩⟩
    | false => exact ⟨rfl, fun d q hd hq => ⟨lz, hK _ ⟨_, _, _, rfl, cs.snoc hd hq, by rw [List.length_append, ll]; rfl⟩⟩⟩
  · obtain ⟨l, qs, a, rfl, cs, ll⟩ := hI
    rw [rgI_len] at ll
    simp only [a_wFn, a_wSeq, a_wNx, a_wBk, a_wCt, a_wEx, a_wSet, a_wOwn, a_wAsg, a_wPar, a_wRet, a_wRetN, a_wRetF, a_wRetFO, a_wParO, a_wFnF, a_wIfS, a_wApp, a_wExt, a_wFrz, a_wAugI, a_wSetIx, a_wAugIx, a_wFor, a_lookL0, a_lookLS, a_look0, a_lookS, a_lookO0, a_lookO1, a_lookOS, a_wV, a_wO, a_wC, a_wBin, a_wUn, a_wTst, a_wTru, a_wAnd, a_wOr, a_wNot, a_wAndV, a_wOrV, a_wNotV, a_wIf, a_wCh, a_wNil, a_wCons, a_wStar, a_wTup, a_wLst, a_wCal, a_wCall, a_wCall0, a_wCallK, a_wCallB, a_wAugC, gInI_i, a_wCalK, a_wSl, a_wNo, a_wPart, a_wFld, a_wMth, a_wM0, a_wM1, a_wgN, a_wgNil, a_wgCons, a_wgT, a_wLc, a_wYes, a_itK, itK_lst, itK_tup, itK_str, seqD_lst, seqD_tup, a_wRg1, a_wRg2, a_wRg3, a_wEnumU, a_wEnumL, a_wZipU, a_wRevU, a_wComb, wipeD, a_mapS, a_map0, a_lenS, a_len0, List.replicate, a_appS, a_app0, a_set0, a_setS, Nat.reduceAdd, Nat.reduceSub, Nat.zero_add, true_and, and_true, gAdd_i, gAdd_s, gAdd_l, gAdd_t, gCat_l, gSub_i, gMul_i, gMul_l, gMul_t, gFdiv_i, gMod_i, gPow_i, gLt_i, gLe_i, gGt_i, gGe_i, gLen_l, gLen_t, gLen_s, gAbs_i, gToInt_i, gToInt_b, gToBl_i, gToBl_b, gToTup_l, gToTup_t, gToLst_l, gToLst_t, gMax2_i, gMin2_i, gNeg_i, gSl_l, gSl_t, gSl_s, gSlL_l, gRevL_l, gIsN_n, gIsN_b, gIsN_i, gIsN_s, gIsN_l, gIsN_t, gNotN_n, gNotN_b, gNotN_i, gNotN_s, gNotN_l, gNotN_t, truD, gEq_int, gNe_int, Bool.not_true, Bool.not_false]
    exact hk l qs cs (by omega) (by omega)
theorem cs__law_claims (B : Bl mg) (DD : OwnDef K mg "_law_claims" s__law_claims) (C__law_claim : CalG P w K mg base 3 "_law_claim" (spW (suR K mg c) 1 f__law_claim) []) (C__law_tap : CalG P w K mg base 1 "_law_tap" (spW (suR K mg c) 2 f__law_tap) [])  : CalG P w K mg base 4 "_law_claims" (spW (suR K mg c) 2 f__law_claims) [] :=
  (pc__law_claims B DD C__law_claim C__law_tap).imp (spW_mono fun ds k e ln h => ok__law_claims ds k e ln h)
def w__law_just : WS := (wSeq (wFor (wRg1 (wCal gLen (wCons (wV 2) wNil))) (wgN 3)
      (wFor (wRg1 (wCal gLen (wCons (wV 2) wNil))) (wgN 4)
      (wIfS (wAnd (wTst (wBin gNe (wV 3) (wV 4))) (wTst (wBin gGt (wBin gIx (wV 2) (wV 3)) (wC (.int 0))))) (wSeq (wPar 5 6 (wCons (wCall0 2 f__law_mark (wCons (wV 0) (wCons (wBin LW.gSub (wBin gIx (wV 2) (wV 3)) (wC (.int 1))) wNil))) (wCons (wCall0 2 f__law_mark (wCons (wV 0) (wCons (wBin gIx (wV 2) (wV 4)) wNil))) wNil)))
      (wSeq (wPar 7 8 (wCons (wCall0 1 f__law_exact (wCons (wBin gIx (wV 1) (wV 4)) wNil)) (wCons (wCall0 1 f__law_exact (wCons (wBin gIx (wV 1) (wV 3)) wNil)) wNil)))
      (wSeq (wSet 9 (wTup (wCons (wBin LW.gMul (wBin gIx (wV 5) (wC (.int 0))) (wBin gIx (wV 7) (wC (.int 0)))) (wCons (wBin LW.gMul (wBin gIx (wV 5) (wC (.int 1))) (wBin gIx (wV 7) (wC (.int 1)))) wNil))))
      (wIfS (wTst (wCall0 2 f__law_under (wCons (wTup (wCons (wBin LW.gMul (wBin gIx (wV 6) (wC (.int 0))) (wBin gIx (wV 8) (wC (.int 0)))) (wCons (wBin LW.gMul (wBin gIx (wV 6) (wC (.int 1))) (wBin gIx (wV 8) (wC (.int 1)))) wNil))) (wCons (wV 9) wNil)))) (wRet (wC (.bl false))) wNx)))) wNx)))
      (wRet (wC (.bl true))))
theorem pb__law_just (B : Bl mg) (C__law_under : CalG P w K mg base 1 "_law_under" (spW (suR K mg c) 2 f__law_under) []) (C__law_mark : CalG P w K mg base 1 "_law_mark" (spW (suR K mg c) 2 f__law_mark) []) (C__law_exact : CalG P w K mg base 2 "_law_exact" (spW (suR K mg c) 1 f__law_exact) [])  : Bdy P w K mg base 2 "_law_just" s__law_just ["_law_spec_here", "_law_numbers", "_law_counts", "_law_i", "_law_j", "_law_one", "_law_two", "_law_first", "_law_second", "_law_left"] (suR K mg c) w__law_just := fun f cdv A outer s H E hr quiet =>
      (xsCons (xsFor PassesOwn.never (by rfl) (xRg1 (by rfl) B.range (xCB (pe_callB call_len (by rfl) B.len (by decide +kernel) (xWCons (xw (xV (pv 2))) xWNil)) pLen)) (xgN (pg_name (i := 3) sc__law_just.nd rfl (Or.inl rfl)))
      (xsOne (xsFor PassesOwn.never (by rfl) (xRg1 (by rfl) B.range (xCB (pe_callB call_len (by rfl) B.len (by decide +kernel) (xWCons (xw (xV (pv 2))) xWNil)) pLen)) (xgN (pg_name (i := 4) sc__law_just.nd rfl (Or.inl rfl)))
      (xsOne (xsIf (PW.pt (xWAnd (xTCmp (op_neD hr.units) pNe (xw (xV (pv 3))) (xw (xV (pv 4))) (nomark _)) (xWAnd1 (xTCmp op_gt pGt (xw (xIx ix_seq pIx (xw (xV (pv 2))) (xw (xV (pv 3))) (fun _ _ => rfl))) (xw (xInt pe_int)) (nomark _))))) (xsCons (xsPar (i := 5) (j := 6) (by rfl) sc__law_just.nd rfl rfl (by decide) rfl rfl (xACons (xCall0 (pe_cG quiet C__law_mark hr (by decide) (by rfl) (xACons (xV (pv 0)) (xACons (xBin op_sub pSub (xw (xIx ix_seq pIx (xw (xV (pv 2))) (xw (xV (pv 3))) (fun _ _ => rfl))) (xw (xInt pe_int))) xANil)))) (xACons (xCall0 (pe_cG quiet C__law_mark hr (by decide) (by rfl) (xACons (xV (pv 0)) (xACons (xIx ix_seq pIx (xw (xV (pv 2))) (xw (xV (pv 4))) (fun _ _ => rfl)) xANil)))) xANil)) (by rfl))
      (xsCons (xsPar (i := 7) (j := 8) (by rfl) sc__law_just.nd rfl rfl (by decide) rfl rfl (xACons (xCall0 (pe_cG quiet C__law_exact hr (by decide) (by rfl) (xACons (xIx ix_seq pIx (xw (xV (pv 1))) (xw (xV (pv 4))) (fun _ _ => rfl)) xANil))) (xACons (xCall0 (pe_cG quiet C__law_exact hr (by decide) (by rfl) (xACons (xIx ix_seq pIx (xw (xV (pv 1))) (xw (xV (pv 3))) (fun _ _ => rfl)) xANil))) xANil)) (by rfl))
      (xsCons (xsSet (i := 9) sc__law_just.nd rfl (Or.inl rfl) (xTup (xACons (xBin op_mulU pMul (xw (xIx ix_seq pIx (xw (xV (pv 5))) (xw (xInt pe_int)) (fun _ _ => rfl))) (xw (xIx ix_seq pIx (xw (xV (pv 7))) (xw (xInt pe_int)) (fun _ _ => rfl)))) (xACons (xBin op_mulU pMul (xw (xIx ix_seq pIx (xw (xV (pv 5))) (xw (xInt pe_int)) (fun _ _ => rfl))) (xw (xIx ix_seq pIx (xw (xV (pv 7))) (xw (xInt pe_int)) (fun _ _ => rfl)))) xANil))))
      (xsOne (xsIf (xTV (xCall0 (pe_cG quiet C__law_under hr (by decide) (by rfl) (xACons (xTup (xACons (xBin op_mulU pMul (xw (xIx ix_seq pIx (xw (xV (pv 6))) (xw (xInt pe_int)) (fun _ _ => rfl))) (xw (xIx ix_seq pIx (xw (xV (pv 8))) (xw (xInt pe_int)) (fun _ _ => rfl)))) (xACons (xBin op_mulU pMul (xw (xIx ix_seq pIx (xw (xV (pv 6))) (xw (xInt pe_int)) (fun _ _ => rfl))) (xw (xIx ix_seq pIx (xw (xV (pv 8))) (xw (xInt pe_int)) (fun _ _ => rfl)))) xANil))) (xACons (xV (pv 9)) xANil))))) (xsOne (xsRet (xw (xBl pe_bl)))) xsNil))))) xsNil)))))
      (xsOne (xsRet (xw (xBl pe_bl)))))
theorem pc__law_just (B : Bl mg) (DD : OwnDef K mg "_law_just" s__law_just) (C__law_under : CalG P w K mg base 1 "_law_under" (spW (suR K mg c) 2 f__law_under) []) (C__law_mark : CalG P w K mg base 1 "_law_mark" (spW (suR K mg c) 2 f__law_mark) []) (C__law_exact : CalG P w K mg base 2 "_law_exact" (spW (suR K mg c) 1 f__law_exact) [])  : CalG P w K mg base 3 "_law_just" (spW (suR K mg c) 3 (wFn 10 w__law_just)) [] :=
  calG_by DD sc__law_just rfl (fun fd f F => F.binds (fun _ _ _ _ _ _ us hl => match us, hl with | [_, _, _], _ => rfl)) (pb__law_just B C__law_under C__law_mark C__law_exact)
/-- the condition for two claimants -/
def FairP (o : Int × Int) (hd : List (Int × Int)) (qs : List (Int × Int)) (ns : List Int) (i j : Nat) : Prop := ∀ (ci cj : Int × Int) (ni nj : Int), qs[i]? = some ci → qs[j]? = some cj → ns[i]? = some ni → ns[j]? = some nj → 0 < ni →
    (markQ o hd (ni - 1)).1 * ci.2 * ((markQ o hd nj).2 * cj.1) ≤ (markQ o hd nj).1 * cj.2 * ((markQ o hd (ni - 1)).2 * ci.1)
theorem fairP_self {o : Int × Int} {hd qs : List (Int × Int)} {ns : List Int} (vr : VR o hd) (pos : ∀ q ∈ qs, Sml q) (i : Nat) : FairP o hd qs ns i i := by
  intro ci cj ni nj h1 h2 h3 h4 h0
  cases h1.symm.trans h2
  cases h3.symm.trans h4
  have g := vr.grows h0
  have sm := pos ci (List.mem_of_getElem? h1)
  have e1 : (markQ o hd (ni - 1)).1 * ci.2 * ((markQ o hd ni).2 * ci.1) = ((markQ o hd (ni - 1)).1 * (markQ o hd ni).2) * (ci.2 * ci.1) := by ac_rfl
  have e2 : (markQ o hd ni).1 * ci.2 * ((markQ o hd (ni - 1)).2 * ci.1) = ((markQ o hd ni).1 * (markQ o hd (ni - 1)).2) * (ci.2 * ci.1) := by ac_rfl
  rw [e1, e2]
  exact Int.mul_le_mul_of_nonneg_right (Int.le_of_lt g) (Int.mul_nonneg (Int.le_of_lt sm.b) (Int.le_of_lt sm.a))
theorem low_times (t b : Int) (h : 0 < b) : ∃ g : Int, 0 < g ∧ t = g * (lowQ t b).1 ∧ b = g * (lowQ t b).2 := by
  have hg := gcd_pos (t := t) h
  refine ⟨((Nat.gcd t.natAbs b.natAbs : Nat) : Int), by omega, ?_, ?_⟩
  · exact (Int.mul_ediv_cancel' (Int.ofNat_dvd_left.mpr (Nat.gcd_dvd_left _ _))).symm
  · exact (Int.mul_ediv_cancel' (Int.ofNat_dvd_left.mpr (Nat.gcd_dvd_right _ _))).symm
theorem lowQ_le (t b : Int) : (lowQ t b).1.natAbs ≤ t.natAbs ∧ (lowQ t b).2.natAbs ≤ b.natAbs := ⟨Int.natAbs_ediv_le_natAbs _ _, Int.natAbs_ediv_le_natAbs _ _⟩
theorem gIx_p0 (q : Int × Int) (k : Dt → Prop) : gIx (prD q) (.int 0) k = k (.int q.1) := propext ⟨fun ⟨_, e, h⟩ => by cases e; exact h, fun h => ⟨_, rfl, h⟩⟩
theorem gIx_p1 (q : Int × Int) (k : Dt → Prop) : gIx (prD q) (.int 1) k = k (.int q.2) := propext ⟨fun ⟨_, e, h⟩ => by cases e; exact h, fun h => ⟨_, rfl, h⟩⟩
theorem Sml.lt {q : Int × Int} (h : Sml q) : q.1.natAbs < 2 ^ 101 ∧ q.2.natAbs < 2 ^ 101 := by
  have t100 : (2 : Int) ^ 100 = 1267650600228229401496703205376 := by decide
  have t20 : (2 : Int) ^ 20 = 1048576 := by decide
  have a := h.a; have a2 := h.a2; have b := h.b; have b2 := h.b2
  rw [t100] at a2
  rw [t20] at b2
  constructor <;> omega
theorem OkM.lt {q : Int × Int} (h : OkM q) : q.1.natAbs < 2 ^ 340 ∧ q.2.natAbs < 2 ^ 340 := by
  have e : (10 : Int) ^ 100 < 2 ^ 340 := by decide
  have a := h.a; have a2 := h.a2; have b := h.b; have b2 := h.b2
  generalize (10 : Int) ^ 100 = z at *
  have : ((2 : Int) ^ 340) = ((2 ^ 340 : Nat) : Int) := by decide +kernel
  rw [this] at e
  generalize (2 : Nat) ^ 340 = w at *
  constructor <;> omega
theorem atD_nat {α : Type} (l : List α) (i : Nat) : atD l (i : Int) = l[i]? := by
  unfold atD
  rw [if_pos (by omega),
        Int.toNat_natCast]
theorem under_iff {a b : Int × Int} {ci cj : Int × Int} (hi : 0 < ci.2) (hj : 0 < cj.2) (pi : 0 < ci.1) (pj : 0 < cj.1) :
    (b.1 * (lowQ ci.1 ci.2).1 * (a.2 * (lowQ cj.1 cj.2).2) < a.1 * (lowQ cj.1 cj.2).1 * (b.2 * (lowQ ci.1 ci.2).2)) ↔ b.1 * cj.2 * (a.2 * ci.1) < a.1 * ci.2 * (b.2 * cj.1) := by
  obtain ⟨g, g0, e1, e2⟩ := low_times ci.1 ci.2 hi
  obtain ⟨f, f0, e3, e4⟩ := low_times cj.1 cj.2 hj
  have p := Int.mul_pos g0 f0
  have k1 : b.1 * cj.2 * (a.2 * ci.1) = b.1 * (lowQ ci.1 ci.2).1 * (a.2 * (lowQ cj.1 cj.2).2) * (g * f) := by
    calc _ = b.1 * (f * (lowQ cj.1 cj.2).2) * (a.2 * (g * (lowQ ci.1 ci.2).1)) := by rw [← e1, ← e4]
      _ = _ := by ac_rfl
  have k2 : a.1 * ci.2 * (b.2 * cj.1) = a.1 * (lowQ cj.1 cj.2).1 * (b.2 * (lowQ ci.1 ci.2).2) * (g * f) := by
    calc _ = a.1 * (g * (lowQ ci.1 ci.2).2) * (b.2 * (f * (lowQ cj.1 cj.2).1)) := by rw [← e2, ← e3]
      _ = _ := by ac_rfl
  rw [k1, k2]
  exact ⟨fun h => Int.mul_lt_mul_of_pos_right h p, fun h => Int.lt_of_mul_lt_mul_right h (Int.le_of_lt p)⟩
def f__law_just : SpF := fun ds k _ => ∃ o hd l qs ns, ds = [spD o hd, .tup l, .tup (ns.map Dt.int)] ∧ VR o hd ∧ Cls6 l qs ∧ l.length ≤ 6 ∧ (∀ n ∈ ns, 0 ≤ n ∧ n < 10 ^ 40) ∧ ns.length = l.length ∧ ∀ b, (b = true ↔ FairQ o hd qs ns) → k (.bl b)
theorem ok__law_just (ds k e) (ln : ds.length = 3) (h : f__law_just ds k e) : wFn 10 w__law_just ds k e := by
  obtain ⟨o, hd, l, qs, ns, rfl, vr, cs, l6, hns, nl, hk⟩ := h
  have ql := cs.len
  have ob := (vr.bots o List.mem_cons_self).2
  have ob8 : o.2.natAbs < 2 ^ 8000 := Nat.lt_trans ob (Nat.pow_lt_pow_right (by decide) (by decide))
  have n8 : ∀ n : Int, 0 ≤ n → n < 10 ^ 40 → n.natAbs < 2 ^ 8000 := fun n h0 h1 => by
    have : (10 : Int) ^ 40 = 10000000000000000000000000000000000000000 := by decide
    rw [this] at h1
    exact Nat.lt_trans (show n.natAbs < 2 ^ 140 by omega) (Nat.pow_lt_pow_right (by decide) (by decide))
  (simp only [a_wFn, a_wFnF, a_mapS, a_map0, List.replicate, a_appS, a_app0, a_lenS, a_len0, Nat.reduceAdd, Nat.reduceSub, Nat.zero_add]; unfold w__law_just; simp only [a_wFn, a_wSeq, a_wNx, a_wBk, a_wCt, a_wEx, a_wSet, a_wOwn, a_wAsg, a_wPar, a_wRet, a_wRetN, a_wRetF, a_wRetFO, a_wParO, a_wFnF, a_wIfS, a_wApp, a_wExt, a_wFrz, a_wAugI, a_wSetIx, a_wAugIx, a_wFor, a_lookL0, a_lookLS, a_look0, a_lookS, a_lookO0, a_lookO1, a_lookOS, a_wV, a_wO, a_wC, a_wBin, a_wUn, a_wTst, a_wTru, a_wAnd, a_wOr, a_wNot, a_wAndV, a_wOrV, a_wNotV, a_wIf, a_wCh, a_wNil, a_wCons, a_wStar, a_wTup, a_wLst, a_wCal, a_wCall, a_wCall0, a_wCallK, a_wCallB, a_wAugC, gInI_i, a_wCalK, a_wSl, a_wNo, a_wPart, a_wFld, a_wMth, a_wM0, a_wM1, a_wgN, a_wgNil, a_wgCons, a_wgT, a_wLc, a_wYes, a_itK, itK_lst, itK_tup, itK_str, seqD_lst, seqD_tup, a_wRg1, a_wRg2, a_wRg3, a_wEnumU, a_wEnumL, a_wZipU, a_wRevU, a_wComb, wipeD, a_mapS, a_map0, a_lenS, a_len0, List.replicate, a_appS, a_app0, a_set0, a_setS, Nat.reduceAdd, Nat.reduceSub, Nat.zero_add, true_and, and_true, gAdd_i, gAdd_s, gAdd_l, gAdd_t, gCat_l, gSub_i, gMul_i, gMul_l, gMul_t, gFdiv_i, gMod_i, gPow_i, gLt_i, gLe_i, gGt_i, gGe_i, gLen_l, gLen_t, gLen_s, gAbs_i, gToInt_i, gToInt_b, gToBl_i, gToBl_b, gToTup_l, gToTup_t, gToLst_l, gToLst_t, gMax2_i, gMin2_i, gNeg_i, gSl_l, gSl_t, gSl_s, gSlL_l, gRevL_l, gIsN_n, gIsN_b, gIsN_i, gIsN_s, gIsN_l, gIsN_t, gNotN_n, gNotN_b, gNotN_i, gNotN_s, gNotN_l, gNotN_t, truD, gEq_int, gNe_int, Bool.not_true, Bool.not_false])
  rw [List.length_map]
  refine ⟨by omega, by
        omega, ?_⟩
  refine forL_by (fun i δ => (∃ a b c d e f g, δ = [some (.val (spD o hd)), some (.val (.tup l)), some (.val (.tup (ns.map Dt.int))), a, b, c, d, e, f, g]) ∧ ∀ i' < i, ∀ j < ns.length, FairP o hd qs ns i' j) ⟨⟨_, _, _, _, _, _, _, rfl⟩, fun i' h => by omega⟩ (fun i x δ K hx hI hK => ?_) fun δ hI => ?_
  · obtain ⟨⟨a, b, c, d, e, f, g, rfl⟩, fi⟩ := hI
    obtain ⟨hi, rfl⟩ := rgI_at hx
    simp only [a_wFn, a_wSeq, a_wNx, a_wBk, a_wCt, a_wEx, a_wSet, a_wOwn, a_wAsg, a_wPar, a_wRet, a_wRetN, a_wRetF, a_wRetFO, a_wParO, a_wFnF, a_wIfS, a_wApp, a_wExt, a_wFrz, a_wAugI, a_wSetIx, a_wAugIx, a_wFor, a_lookL0, a_lookLS, a_look0, a_lookS, a_lookO0, a_lookO1, a_lookOS, a_wV, a_wO, a_wC, a_wBin, a_wUn, a_wTst, a_wTru, a_wAnd, a_wOr, a_wNot, a_wAndV, a_wOrV, a_wNotV, a_wIf, a_wCh, a_wNil, a_wCons, a_wStar, a_wTup, a_wLst, a_wCal, a_wCall, a_wCall0, a_wCallK, a_wCallB, a_wAugC, gInI_i, a_wCalK, a_wSl, a_wNo, a_wPart, a_wFld, a_wMth, a_wM0, a_wM1, a_wgN, a_wgNil, a_wgCons, a_wgT, a_wLc, a_wYes, a_itK, itK_lst, itK_tup, itK_str, seqD_lst, seqD_tup, a_wRg1, a_wRg2, a_wRg3, a_wEnumU, a_wEnumL, a_wZipU, a_wRevU, a_wComb, wipeD, a_mapS, a_map0, a_lenS, a_len0, List.replicate, a_appS, a_app0, a_set0, a_setS, Nat.reduceAdd, Nat.reduceSub, Nat.zero_add, true_and, and_true, gAdd_i, gAdd_s, gAdd_l, gAdd_t, gCat_l, gSub_i, gMul_i, gMul_l, gMul_t, gFdiv_i, gMod_i, gPow_i, gLt_i, gLe_i, gGt_i, gGe_i, gLen_l, gLen_t, gLen_s, gAbs_i, gToInt_i, gToInt_b, gToBl_i, gToBl_b, gToTup_l, gToTup_t, gToLst_l, gToLst_t, gMax2_i, gMin2_i, gNeg_i, gSl_l, gSl_t, gSl_s, gSlL_l, gRevL_l, gIsN_n, gIsN_b, gIsN_i, gIsN_s, gIsN_l, gIsN_t, gNotN_n, gNotN_b, gNotN_i, gNotN_s, gNotN_l, gNotN_t, truD, gEq_int, gNe_int, Bool.not_true, Bool.not_false]
    rw [List.length_map]
    refine ⟨by omega, by
          omega, ?_⟩
    refine forL_by (fun j δ => (∃ b c d e f g, δ = [some (.val (spD o hd)), some (.val (.tup l)), some (.val (.tup (ns.map Dt.int))), some (.val (.int (0 + (i : Nat)))), b, c, d, e, f, g]) ∧ ∀ j' < j, FairP o hd qs ns i j') ⟨⟨_, _, _, _, _, _, rfl⟩, fun i' h => by omega⟩ (fun j y δ K2 hy hI hK2 => ?_) fun δ hI => ?_
    · obtain ⟨⟨b, c, d, e, f, g, rfl⟩, fj⟩ := hI
      obtain ⟨hj, rfl⟩ := rgI_at hy
      have hi' : i < ns.length := by omega
      have hj' : j < ns.length := by omega
      simp only [a_wFn, a_wSeq, a_wNx, a_wBk, a_wCt, a_wEx, a_wSet, a_wOwn, a_wAsg, a_wPar, a_wRet, a_wRetN, a_wRetF, a_wRetFO, a_wParO, a_wFnF, a_wIfS, a_wApp, a_wExt, a_wFrz, a_wAugI, a_wSetIx, a_wAugIx, a_wFor, a_lookL0, a_lookLS, a_look0, a_lookS, a_lookO0, a_lookO1, a_lookOS, a_wV, a_wO, a_wC, a_wBin, a_wUn, a_wTst, a_wTru, a_wAnd, a_wOr, a_wNot, a_wAndV, a_wOrV, a_wNotV, a_wIf, a_wCh, a_wNil, a_wCons, a_wStar, a_wTup, a_wLst, a_wCal, a_wCall, a_wCall0, a_wCallK, a_wCallB, a_wAugC, gInI_i, a_wCalK, a_wSl, a_wNo, a_wPart, a_wFld, a_wMth, a_wM0, a_wM1, a_wgN, a_wgNil, a_wgCons, a_wgT, a_wLc, a_wYes, a_itK, itK_lst, itK_tup, itK_str, seqD_lst, seqD_tup, a_wRg1, a_wRg2, a_wRg3, a_wEnumU, a_wEnumL, a_wZipU, a_wRevU, a_wComb, wipeD, a_mapS, a_map0, a_lenS, a_len0, List.replicate, a_appS, a_app0, a_set0, a_setS, Nat.reduceAdd, Nat.reduceSub, Nat.zero_add, true_and, and_true, gAdd_i, gAdd_s, gAdd_l, gAdd_t, gCat_l, gSub_i, gMul_i, gMul_l, gMul_t, gFdiv_i, gMod_i, gPow_i, gLt_i, gLe_i, gGt_i, gGe_i, gLen_l, gLen_t, gLen_s, gAbs_i, gToInt_i, gToInt_b, gToBl_i, gToBl_b, gToTup_l, gToTup_t, gToLst_l, gToLst_t, gMax2_i, gMin2_i, gNeg_i, gSl_l, gSl_t, gSl_s, gSlL_l, gRevL_l, gIsN_n, gIsN_b, gIsN_i, gIsN_s, gIsN_l, gIsN_t, gNotN_n, gNotN_b, gNotN_i, gNotN_s, gNotN_l, gNotN_t, truD, gEq_int, gNe_int, Bool.not_true, Bool.not_false]
      have go : FairP o hd qs ns i j → ∀ δ', (∃ b c d e f g, δ' = [some (.val (spD o hd)), some (.val (.tup l)), some (.val (.tup (ns.map Dt.int))), some (.val (.int (0 + (i : Nat)))), b, c, d, e, f, g]) → K2 δ' := fun fp δ' ex => hK2 δ' ⟨ex, fun j' hj2 => by
        rcases Nat.lt_succ_iff_lt_or_eq.mp hj2 with z | z
        · exact fj j' z
        · rw [z]; exact fp⟩
      rw [Int.zero_add, Int.zero_add]
      rw [Int.zero_add] at go
      by_cases ij : i = j
      · subst ij
        rw [decide_eq_true rfl]
        exact go (fairP_self vr cs.sml i) _ ⟨_, _, _, _, _, _, rfl⟩
      rw [decide_eq_false (show ¬ ((i : Int) = (j : Int)) by omega)]
      have e1 : (ns.map Dt.int)[i]? = some (.int ns[i]) := by rw [List.getElem?_map, List.getElem?_eq_getElem hi']; rfl
      have e2 : (ns.map Dt.int)[j]? = some (.int ns[j]) := by rw [List.getElem?_map, List.getElem?_eq_getElem hj']; rfl
      have q1 : qs[i]? = some qs[i] := List.getElem?_eq_getElem (by omega)
      have q2 : qs[j]? = some qs[j] := List.getElem?_eq_getElem (by omega)
      simp only [a_wFn, a_wSeq, a_wNx, a_wBk, a_wCt, a_wEx, a_wSet, a_wOwn, a_wAsg, a_wPar, a_wRet, a_wRetN, a_wRetF, a_wRetFO, a_wParO, a_wFnF, a_wIfS, a_wApp, a_wExt, a_wFrz, a_wAugI, a_wSetIx, a_wAugIx, a_wFor, a_lookL0, a_lookLS, a_look0, a_lookS, a_lookO0, a_lookO1, a_lookOS, a_wV, a_wO, a_wC, a_wBin, a_wUn, a_wTst, a_wTru, a_wAnd, a_wOr, a_wNot, a_wAndV, a_wOrV, a_wNotV, a_wIf, a_wCh, a_wNil, a_wCons, a_wStar, a_wTup, a_wLst, a_wCal, a_wCall, a_wCall0, a_wCallK, a_wCallB, a_wAugC, gInI_i, a_wCalK, a_wSl, a_wNo, a_wPart, a_wFld, a_wMth, a_wM0, a_wM1, a_wgN, a_wgNil, a_wgCons, a_wgT, a_wLc, a_wYes, a_itK, itK_lst, itK_tup, itK_str, seqD_lst, seqD_tup, a_wRg1, a_wRg2, a_wRg3, a_wEnumU, a_wEnumL, a_wZipU, a_wRevU, a_wComb, wipeD, a_mapS, a_map0, a_lenS, a_len0, List.replicate, a_appS, a_app0, a_set0, a_setS, Nat.reduceAdd, Nat.reduceSub, Nat.zero_add, true_and, and_true, gAdd_i, gAdd_s, gAdd_l, gAdd_t, gCat_l, gSub_i, gMul_i, gMul_l, gMul_t, gFdiv_i, gMod_i, gPow_i, gLt_i, gLe_i, gGt_i, gGe_i, gLen_l, gLen_t, gLen_s, gAbs_i, gToInt_i, gToInt_b, gToBl_i, gToBl_b, gToTup_l, gToTup_t, gToLst_l, gToLst_t, gMax2_i, gMin2_i, gNeg_i, gSl_l, gSl_t, gSl_s, gSlL_l, gRevL_l, gIsN_n, gIsN_b, gIsN_i, gIsN_s, gIsN_l, gIsN_t, gNotN_n, gNotN_b, gNotN_i, gNotN_s, gNotN_l, gNotN_t, truD, gEq_int, gNe_int, Bool.not_true, Bool.not_false]
      refine ⟨.int ns[i], by rw [atD_nat, e1], ?_⟩
      simp only [a_wFn, a_wSeq, a_wNx, a_wBk, a_wCt, a_wEx, a_wSet, a_wOwn, a_wAsg, a_wPar, a_wRet, a_wRetN, a_wRetF, a_wRetFO, a_wParO, a_wFnF, a_wIfS, a_wApp, a_wExt, a_wFrz, a_wAugI, a_wSetIx, a_wAugIx, a_wFor, a_lookL0, a_lookLS, a_look0, a_lookS, a_lookO0, a_lookO1, a_lookOS, a_wV, a_wO, a_wC, a_wBin, a_wUn, a_wTst, a_wTru, a_wAnd, a_wOr, a_wNot, a_wAndV, a_wOrV, a_wNotV, a_wIf, a_wCh, a_wNil, a_wCons, a_wStar, a_wTup, a_wLst, a_wCal, a_wCall, a_wCall0, a_wCallK, a_wCallB, a_wAugC, gInI_i, a_wCalK, a_wSl, a_wNo, a_wPart, a_wFld, a_wMth, a_wM0, a_wM1, a_wgN, a_wgNil, a_wgCons, a_wgT, a_wLc, a_wYes, a_itK, itK_lst, itK_tup, itK_str, seqD_lst, seqD_tup, a_wRg1, a_wRg2, a_wRg3, a_wEnumU, a_wEnumL, a_wZipU, a_wRevU, a_wComb, wipeD, a_mapS, a_map0, a_lenS, a_len0, List.replicate, a_appS, a_app0, a_set0, a_setS, Nat.reduceAdd, Nat.reduceSub, Nat.zero_add, true_and, and_true, gAdd_i, gAdd_s, gAdd_l, gAdd_t, gCat_l, gSub_i, gMul_i, gMul_l, gMul_t, gFdiv_i, gMod_i, gPow_i, gLt_i, gLe_i, gGt_i, gGe_i, gLen_l, gLen_t, gLen_s, gAbs_i, gToInt_i, gToInt_b, gToBl_i, gToBl_b, gToTup_l, gToTup_t, gToLst_l, gToLst_t, gMax2_i, gMin2_i, gNeg_i, gSl_l, gSl_t, gSl_s, gSlL_l, gRevL_l, gIsN_n, gIsN_b, gIsN_i, gIsN_s, gIsN_l, gIsN_t, gNotN_n, gNotN_b, gNotN_i, gNotN_s, gNotN_l, gNotN_t, truD, gEq_int, gNe_int, Bool.not_true, Bool.not_false]
      by_cases n0 : 0 < ns[i]
      · rw [decide_eq_true n0]
        obtain ⟨ni0, ni1⟩ := hns ns[i] (List.getElem_mem hi')
        obtain ⟨nj0, nj1⟩ := hns ns[j] (List.getElem_mem hj')
        have li : l[i]? = some l[i] := List.getElem?_eq_getElem (by omega)
        have lj : l[j]? = some l[j] := List.getElem?_eq_getElem (by omega)
        obtain ⟨ci, c1, d1⟩ := nums_at cs.num li
        obtain ⟨cj, c2, d2⟩ := nums_at cs.num lj
        have si := cs.sml ci (List.mem_of_getElem? c1)
        have sj := cs.sml cj (List.mem_of_getElem? c2)
        have z8 : (2 : Nat) ^ 101 < 2 ^ 8000 := Nat.pow_lt_pow_right (by decide) (by decide)
        have mi := (vr.mark (show 0 ≤ ns[i] - 1 by omega) (Int.lt_trans (show ns[i] - 1 < ns[i] by omega) ni1)).lt
        have mj := (vr.mark nj0 nj1).lt
        have lc : (lowQ ci.1 ci.2).1.natAbs < 2 ^ 101 ∧ (lowQ ci.1 ci.2).2.natAbs < 2 ^ 101 := ⟨Nat.lt_of_le_of_lt (lowQ_le _ _).1 si.lt.1, Nat.lt_of_le_of_lt (lowQ_le _ _).2 si.lt.2⟩
        have ld : (lowQ cj.1 cj.2).1.natAbs < 2 ^ 101 ∧ (lowQ cj.1 cj.2).2.natAbs < 2 ^ 101 := ⟨Nat.lt_of_le_of_lt (lowQ_le _ _).1 sj.lt.1, Nat.lt_of_le_of_lt (lowQ_le _ _).2 sj.lt.2⟩
        have w : ∀ {x y : Int}, x.natAbs < 2 ^ 340 → y.natAbs < 2 ^ 101 → CMulW x y ∧ (x * y).natAbs < 2 ^ 8000 := fun h1 h2 => ⟨wide_mul h1 h2 (by decide) (by decide) (by decide), Nat.lt_trans (wide_lt h1 h2) (Nat.pow_lt_pow_right (by decide) (by decide))⟩
        refine ⟨.int ns[i], by rw [atD_nat, e1], ?_⟩
        simp only [a_wFn, a_wSeq, a_wNx, a_wBk, a_wCt, a_wEx, a_wSet, a_wOwn, a_wAsg, a_wPar, a_wRet, a_wRetN, a_wRetF, a_wRetFO, a_wParO, a_wFnF, a_wIfS, a_wApp, a_wExt, a_wFrz, a_wAugI, a_wSetIx, a_wAugIx, a_wFor, a_lookL0, a_lookLS, a_look0, a_lookS, a_lookO0, a_lookO1, a_lookOS, a_wV, a_wO, a_wC, a_wBin, a_wUn, a_wTst, a_wTru, a_wAnd, a_wOr, a_wNot, a_wAndV, a_wOrV, a_wNotV, a_wIf, a_wCh, a_wNil, a_wCons, a_wStar, a_wTup, a_wLst, a_wCal, a_wCall, a_wCall0, a_wCallK, a_wCallB, a_wAugC, gInI_i, a_wCalK, a_wSl, a_wNo, a_wPart, a_wFld, a_wMth, a_wM0, a_wM1, a_wgN, a_wgNil, a_wgCons, a_wgT, a_wLc, a_wYes, a_itK, itK_lst, itK_tup, itK_str, seqD_lst, seqD_tup, a_wRg1, a_wRg2, a_wRg3, a_wEnumU, a_wEnumL, a_wZipU, a_wRevU, a_wComb, wipeD, a_mapS, a_map0, a_lenS, a_len0, List.replicate, a_appS, a_app0, a_set0, a_setS, Nat.reduceAdd, Nat.reduceSub, Nat.zero_add, true_and, and_true, gAdd_i, gAdd_s, gAdd_l, gAdd_t, gCat_l, gSub_i, gMul_i, gMul_l, gMul_t, gFdiv_i, gMod_i, gPow_i, gLt_i, gLe_i, gGt_i, gGe_i, gLen_l, gLen_t, gLen_s, gAbs_i, gToInt_i, gToInt_b, gToBl_i, gToBl_b, gToTup_l, gToTup_t, gToLst_l, gToLst_t, gMax2_i, gMin2_i, gNeg_i, gSl_l, gSl_t, gSl_s, gSlL_l, gRevL_l, gIsN_n, gIsN_b, gIsN_i, gIsN_s, gIsN_l, gIsN_t, gNotN_n, gNotN_b, gNotN_i, gNotN_s, gNotN_l, gNotN_t, truD, gEq_int, gNe_int, Bool.not_true, Bool.not_false]
        refine ⟨o, hd, ns[i] - 1, rfl, by omega, n8 _ (by omega) (by omega), ob8, ?_⟩
        refine ⟨.int ns[j], by rw [atD_nat, e2], ?_⟩
        refine ⟨o, hd, ns[j], rfl, nj0, n8 _ nj0 nj1, ob8, ?_⟩
        refine ⟨l[j], by rw [atD_nat, lj], l[j], cj, rfl, d2, sj.b, Nat.lt_trans sj.lt.2 z8, ?_⟩
        refine ⟨l[i], by rw [atD_nat, li], l[i], ci, rfl, d1, si.b, Nat.lt_trans si.lt.2 z8, ?_⟩
        simp only [gIx_p0, gIx_p1, gMul_i]
        refine ⟨(w mi.1 ld.1).1, (w mi.2 ld.2).1, by decide, (w mj.1 lc.1).1, (w mj.2 lc.2).1, by decide, (_, _), (_, _), rfl, ⟨(w mj.1 lc.1).2, (w mj.2 lc.2).2⟩, ⟨(w mi.1 ld.1).2, (w mi.2 ld.2).2⟩, ?_⟩
        have ui := under_iff (a := markQ o hd (ns[i] - 1)) (b := markQ o hd ns[j]) si.b sj.b si.a sj.a
        by_cases u : (markQ o hd ns[j]).1 * (lowQ ci.1 ci.2).1 * ((markQ o hd (ns[i] - 1)).2 * (lowQ cj.1 cj.2).2) < (markQ o hd (ns[i] - 1)).1 * (lowQ cj.1 cj.2).1 * ((markQ o hd ns[j]).2 * (lowQ ci.1 ci.2).2)
        · rw [decide_eq_true u]
          refine hk false ⟨fun z => Bool.noConfusion z, fun fq => ?_⟩
          have := fq i j ci cj ns[i] ns[j] c1 c2 (List.getElem?_eq_getElem hi') (List.getElem?_eq_getElem hj') n0
          have := ui.mp u
          omega
        · rw [decide_eq_false u]
          refine go (fun ci' cj' ni nj h1 h2 h3 h4 h0 => ?_) _ ⟨_, _, _, _, _, _, rfl⟩
          rw [List.getElem?_eq_getElem hi'] at h3
          rw [List.getElem?_eq_getElem hj'] at h4
          rw [c1] at h1
          rw [c2] at h2
          cases h1; cases h2; cases h3; cases h4
          exact Int.not_lt.mp fun z => u (ui.mpr z)
      · rw [decide_eq_false n0]
        refine go (fun ci cj ni nj h1 h2 h3 h4 h0 => ?_) _ ⟨_, _, _, _, _, _, rfl⟩
        rw [List.getElem?_eq_getElem hi'] at h3
        cases h3
        exact absurd h0 n0
    · obtain ⟨⟨b, c, d, e, f, g, rfl⟩, fj⟩ := hI
      rw [rgI_len] at fj
      refine hK _ ⟨⟨_, _, _, _, _, _, _, rfl⟩, fun i' hi' j hj => ?_⟩
      rcases Nat.lt_succ_iff_lt_or_eq.mp hi' with z | z
      · exact fi i' z j hj
      · rw [z]; exact fj j (by omega)
  · obtain ⟨_, fi⟩ := hI
    rw [rgI_len] at fi
    refine hk true ⟨fun _ i j ci cj ni nj h1 h2 h3 h4 h0 => ?_, fun _ => rfl⟩
    have li := (List.getElem?_eq_some_iff.mp h3).1
    have lj := (List.getElem?_eq_some_iff.mp h4).1
    exact fi i (by omega) j lj ci cj ni nj h1 h2 h3 h4 h0
theorem cs__law_just (B : Bl mg) (DD : OwnDef K mg "_law_just" s__law_just) (C__law_under : CalG P w K mg base 1 "_law_under" (spW (suR K mg c) 2 f__law_under) []) (C__law_mark : CalG P w K mg base 1 "_law_mark" (spW (suR K mg c) 2 f__law_mark) []) (C__law_exact : CalG P w K mg base 2 "_law_exact" (spW (suR K mg c) 1 f__law_exact) [])  : CalG P w K mg base 3 "_law_just" (spW (suR K mg c) 3 f__law_just) [] :=
  (pc__law_just B DD C__law_under C__law_mark C__law_exact).imp (spW_mono fun ds k e ln h => ok__law_just ds k e ln h)
def w__law_all (f__law_all : SpF) : WS := (wSeq (wIfS (wTst (wBin gEq (wV 0) (wC (.int 1)))) (wRetF (wLst (wCons (wTup (wCons (wV 1) wNil)) wNil))) wNx)
      (wSeq (wOwn 2 (wLst wNil))
      (wSeq (wFor (wRg3 (wV 1) (wUn gNeg (wC (.int 1))) (wUn gNeg (wC (.int 1)))) (wgN 3)
      (wExt 2 (wLc [4] (wIt (wCall0 2 f__law_all (wCons (wBin LW.gSub (wV 0) (wC (.int 1))) (wCons (wBin LW.gSub (wV 1) (wV 3)) wNil)))) (wgN 4) wYes (wBin LW.gAdd (wTup (wCons (wV 3) wNil)) (wV 4)))))
      (wRetFO 2))))
theorem pb__law_all {lv : Nat} {f_rec : SpF} (B : Bl mg)  (C__law_all : CalG P w K mg base lv "_law_all" (spWF (suR K mg c) 2 f_rec) [])  : Bdy P w K mg base lv "_law_all" s__law_all ["_law_size", "_law_items_here", "_law_found", "_law_first", "_law_rest"] (suR K mg c) (w__law_all f_rec) := fun f cdv A outer s H E hr quiet =>
      (xsCons (xsIf (xTCmp (op_eqD hr.units) pEq (xw (xV (pv 0))) (xw (xInt pe_int)) (nomark _)) (xsOne (xsRetF (xLst (xACons (xTup (xACons (xV (pv 1)) xANil)) xANil)))) xsNil)
      (xsCons (xsOwn (i := 2) sc__law_all.nd rfl (Or.inl rfl) (xLst xANil))
      (xsCons (xsFor PassesOwn.never (by rfl) (xRg3 (by rfl) B.range (xV (pv 1)) (xNeg (xw (xInt pe_int))) (xNeg (xw (xInt pe_int)))) (xgN (pg_name (i := 3) sc__law_all.nd rfl (Or.inr rfl)))
      (xsOne (xsExt (pe_bm PySem.F.plainAttrs_list PySem.F.slot_list_extend PySem.F.type_list_extend mt_extend (pv 2) (pa_cons (xf (xLc (own := [("_law_rest", 4)]) (by rfl) sc__law_all.nd (xItC (xw (xf (xCallF (pe_cG quiet C__law_all hr (Nat.le_refl _) (by rfl) (xACons (xBin op_sub pSub (xw (xV (pv 0))) (xw (xInt pe_int))) (xACons (xBin op_sub pSub (xw (xV (pv 1))) (xw (xV (pv 3)))) xANil))))))) (blkOk_by (own := [("_law_rest", 4)]) (N := ["_law_size", "_law_items_here", "_law_found", "_law_first", "_law_rest"]) (sc := defScope s__law_all) (by decide +kernel)) (fun _ _ _ _ _ => (xgN (pg_name (i := 4) sc__law_all.nd rfl (Or.inl rfl)))) (fun _ _ _ _ _ => xPts0) (fun _ _ _ _ _ => (xBin op_addU pAdd (xw (xTup (xACons (xV (pv 3)) xANil))) (xw (xV (pv 4))))) (by decide))) pa_nil)))))
      (xsOne (xsRetFO (pv 2))))))
theorem pc__law_all {lv : Nat} {f_rec : SpF} (B : Bl mg) (DD : OwnDef K mg "_law_all" s__law_all)  (C__law_all : CalG P w K mg base lv "_law_all" (spWF (suR K mg c) 2 f_rec) [])  : CalG P w K mg base (lv + 1) "_law_all" (spWF (suR K mg c) 2 (wFnF 5 (w__law_all f_rec))) [] :=
  calGF_by DD sc__law_all rfl (fun fd f F => F.binds (fun _ _ _ _ _ _ us hl => match us, hl with | [_, _], _ => rfl)) (pb__law_all B C__law_all)
theorem pn__law_all {lv : Nat} (DD : OwnDef K mg "_law_all" s__law_all) : CalG P w K mg base lv "_law_all" (spWF (suR K mg c) 2 fun _ _ _ => False) [] := calGF_never (ps := ["_law_size", "_law_items_here"]) DD (fun fd f F => F.binds (fun _ _ _ _ _ _ us hl => match us, hl with | [_, _], _ => rfl))
/-- all divisions, in descending order -/
def divsL : Nat → Nat → List (List Int)
  | 0, _ => []
  | 1, m => [[(m : Int)]]
  | s + 2, m => ((List.range (m + 1)).map fun t => (divsL (s + 1) t).map fun r => (((m - t : Nat) : Int) :: r)).flatten
theorem divsL_mem : ∀ (s m : Nat) (r : List Int), r ∈ divsL (s + 1) m → r.length = s + 1 ∧ (∀ n ∈ r, 0 ≤ n) ∧ r.sum = m
  | 0, m, r, h => by
    rw [divsL, List.mem_singleton] at h
    subst h
    refine ⟨rfl, fun n hn => ?_, by simp⟩
    rw [List.mem_singleton.mp hn]
    omega
  | s + 1, m, r, h => by
    rw [divsL] at h
    obtain ⟨b, hb, hr⟩ := List.mem_flatten.mp h
    obtain ⟨t, ht, rfl⟩ := List.mem_map.mp hb
    obtain ⟨q, hq, rfl⟩ := List.mem_map.mp hr
    obtain ⟨a1, a2, a3⟩ := divsL_mem s t q hq
    have := List.mem_range.mp ht
    refine ⟨by rw [List.length_cons, a1], fun n hn => ?_, ?_⟩
    · rcases List.mem_cons.mp hn with rfl | hn
      · omega
      · exact a2 n hn
    · rw [List.sum_cons, a3]
      omega
def tupN (ns : List Int) : Dt := .tup (ns.map Dt.int)
def divsB (s m i : Nat) : List (List Int) := ((List.range i).map fun t => (divsL (s + 1) t).map fun r => (((m - t : Nat) : Int) :: r)).flatten
theorem divsB_succ (s m i : Nat) : divsB s m (i + 1) = divsB s m i ++ (divsL (s + 1) i).map fun r => (((m - i : Nat) : Int) :: r) := by
  unfold divsB
  rw [List.range_succ, List.map_append, List.flatten_append]
  simp
theorem divsB_le (s m : Nat) : ∀ (i j : Nat), i ≤ j → (divsB s m i).length ≤ (divsB s m j).length := fun i j h => by
  induction j with
  | zero => rw [show i = 0 by omega]; exact Nat.le_refl _
  | succ j ih =>
    rcases Nat.lt_or_ge i (j + 1) with z | z
    · rw [divsB_succ, List.length_append]
      have := ih (by omega)
      omega
    · rw [show i = j + 1 by omega]; exact Nat.le_refl _
theorem intsC_at {lo c : Int} {n i : Nat} {d : Dt} (h : (intsC lo c n)[i]? = some d) : i < n ∧ d = .int (lo + (i : Nat) * c) := by
  unfold intsC at h
  obtain ⟨j, hj, rfl⟩ := some_map h
  obtain ⟨h1, h2⟩ := List.getElem?_eq_some_iff.mp hj
  rw [List.length_range] at h1
  rw [List.getElem_range] at h2
  exact ⟨h1, by rw [h2]⟩
theorem intsC_len (lo c : Int) (n : Nat) : (intsC lo c n).length = n := by simp [intsC]
def f__law_allS (s : Nat) : SpF := fun ds k _ => ∃ m : Nat, ds = [.int (s : Nat), .int (m : Nat)] ∧ m ≤ 40 ∧ (divsL s m).length ≤ 100000 ∧ k (.lst ((divsL s m).map tupN))
theorem ok__law_all1 (f_rec : SpF) (ds k e) (ln : ds.length = 2) (h : f__law_allS 1 ds k e) : wFnF 5 (w__law_all f_rec) ds k e := by
  obtain ⟨m, rfl, m40, lm, hk⟩ := h
  (simp only [a_wFn, a_wFnF, a_mapS, a_map0, List.replicate, a_appS, a_app0, a_lenS, a_len0, Nat.reduceAdd, Nat.reduceSub, Nat.zero_add]; unfold w__law_all; simp only [a_wFn, a_wSeq, a_wNx, a_wBk, a_wCt, a_wEx, a_wSet, a_wOwn, a_wAsg, a_wPar, a_wRet, a_wRetN, a_wRetF, a_wRetFO, a_wParO, a_wFnF, a_wIfS, a_wApp, a_wExt, a_wFrz, a_wAugI, a_wSetIx, a_wAugIx, a_wFor, a_lookL0, a_lookLS, a_look0, a_lookS, a_lookO0, a_lookO1, a_lookOS, a_wV, a_wO, a_wC, a_wBin, a_wUn, a_wTst, a_wTru, a_wAnd, a_wOr, a_wNot, a_wAndV, a_wOrV, a_wNotV, a_wIf, a_wCh, a_wNil, a_wCons, a_wStar, a_wTup, a_wLst, a_wCal, a_wCall, a_wCall0, a_wCallK, a_wCallB, a_wAugC, gInI_i, a_wCalK, a_wSl, a_wNo, a_wPart, a_wFld, a_wMth, a_wM0, a_wM1, a_wgN, a_wgNil, a_wgCons, a_wgT, a_wLc, a_wYes, a_itK, itK_lst, itK_tup, itK_str, seqD_lst, seqD_tup, a_wRg1, a_wRg2, a_wRg3, a_wEnumU, a_wEnumL, a_wZipU, a_wRevU, a_wComb, wipeD, a_mapS, a_map0, a_lenS, a_len0, List.replicate, a_appS, a_app0, a_set0, a_setS, Nat.reduceAdd, Nat.reduceSub, Nat.zero_add, true_and, and_true, gAdd_i, gAdd_s, gAdd_l, gAdd_t, gCat_l, gSub_i, gMul_i, gMul_l, gMul_t, gFdiv_i, gMod_i, gPow_i, gLt_i, gLe_i, gGt_i, gGe_i, gLen_l, gLen_t, gLen_s, gAbs_i, gToInt_i, gToInt_b, gToBl_i, gToBl_b, gToTup_l, gToTup_t, gToLst_l, gToLst_t, gMax2_i, gMin2_i, gNeg_i, gSl_l, gSl_t, gSl_s, gSlL_l, gRevL_l, gIsN_n, gIsN_b, gIsN_i, gIsN_s, gIsN_l, gIsN_t, gNotN_n, gNotN_b, gNotN_i, gNotN_s, gNotN_l, gNotN_t, truD, gEq_int, gNe_int, Bool.not_true, Bool.not_false])
  rw [decide_eq_true (show ((1 : Nat) : Int) = 1 from rfl)]
  exact ⟨by decide, by decide, hk⟩
theorem ok__law_allS (f_rec : SpF) (s : Nat) (hs : s < 6) (hr : ∀ ds k e, f__law_allS (s + 1) ds k e → f_rec ds k e) (ds k e) (ln : ds.length = 2) (h : f__law_allS (s + 2) ds k e) : wFnF 5 (w__law_all f_rec) ds k e := by
  obtain ⟨m, rfl, m40, lm, hk⟩ := h
  have lB : (divsB s m (m + 1)).length ≤ 100000 := lm
  (simp only [a_wFn, a_wFnF, a_mapS, a_map0, List.replicate, a_appS, a_app0, a_lenS, a_len0, Nat.reduceAdd, Nat.reduceSub, Nat.zero_add]; unfold w__law_all; simp only [a_wFn, a_wSeq, a_wNx, a_wBk, a_wCt, a_wEx, a_wSet, a_wOwn, a_wAsg, a_wPar, a_wRet, a_wRetN, a_wRetF, a_wRetFO, a_wParO, a_wFnF, a_wIfS, a_wApp, a_wExt, a_wFrz, a_wAugI, a_wSetIx, a_wAugIx, a_wFor, a_lookL0, a_lookLS, a_look0, a_lookS, a_lookO0, a_lookO1, a_lookOS, a_wV, a_wO, a_wC, a_wBin, a_wUn, a_wTst, a_wTru, a_wAnd, a_wOr, a_wNot, a_wAndV, a_wOrV, a_wNotV, a_wIf, a_wCh, a_wNil, a_wCons, a_wStar, a_wTup, a_wLst, a_wCal, a_wCall, a_wCall0, a_wCallK, a_wCallB, a_wAugC, gInI_i, a_wCalK, a_wSl, a_wNo, a_wPart, a_wFld, a_wMth, a_wM0, a_wM1, a_wgN, a_wgNil, a_wgCons, a_wgT, a_wLc, a_wYes, a_itK, itK_lst, itK_tup, itK_str, seqD_lst, seqD_tup, a_wRg1, a_wRg2, a_wRg3, a_wEnumU, a_wEnumL, a_wZipU, a_wRevU, a_wComb, wipeD, a_mapS, a_map0, a_lenS, a_len0, List.replicate, a_appS, a_app0, a_set0, a_setS, Nat.reduceAdd, Nat.reduceSub, Nat.zero_add, true_and, and_true, gAdd_i, gAdd_s, gAdd_l, gAdd_t, gCat_l, gSub_i, gMul_i, gMul_l, gMul_t, gFdiv_i, gMod_i, gPow_i, gLt_i, gLe_i, gGt_i, gGe_i, gLen_l, gLen_t, gLen_s, gAbs_i, gToInt_i, gToInt_b, gToBl_i, gToBl_b, gToTup_l, gToTup_t, gToLst_l, gToLst_t, gMax2_i, gMin2_i, gNeg_i, gSl_l, gSl_t, gSl_s, gSlL_l, gRevL_l, gIsN_n, gIsN_b, gIsN_i, gIsN_s, gIsN_l, gIsN_t, gNotN_n, gNotN_b, gNotN_i, gNotN_s, gNotN_l, gNotN_t, truD, gEq_int, gNe_int, Bool.not_true, Bool.not_false])
  rw [decide_eq_false (show ¬ (((s + 2 : Nat) : Int) = 1) by omega)]
  refine ⟨by decide, m + 1, ?_, ?_⟩
  · have z := RgC.neg (i := (m : Int)) (j := -1) (by omega) (by omega) (by omega) (by omega)
    rwa [show ((m : Int) - -1).toNat = m + 1 by omega] at z
  refine forL_by (fun i δ => ∃ a b, δ = [some (.val (.int ((s + 2 : Nat) : Int))), some (.val (.int (m : Int))), some (.own ((divsB s m i).map tupN)), a, b]) ⟨_, _, rfl⟩ (fun i x δ K hx hI hK => ?_) fun δ hI => ?_
  · obtain ⟨a, b, rfl⟩ := hI
    obtain ⟨hi, rfl⟩ := intsC_at hx
    have up := divsB_le s m (i + 1) (m + 1) (by omega)
    rw [divsB_succ, List.length_append, List.length_map] at up
    simp only [a_wFn, a_wSeq, a_wNx, a_wBk, a_wCt, a_wEx, a_wSet, a_wOwn, a_wAsg, a_wPar, a_wRet, a_wRetN, a_wRetF, a_wRetFO, a_wParO, a_wFnF, a_wIfS, a_wApp, a_wExt, a_wFrz, a_wAugI, a_wSetIx, a_wAugIx, a_wFor, a_lookL0, a_lookLS, a_look0, a_lookS, a_lookO0, a_lookO1, a_lookOS, a_wV, a_wO, a_wC, a_wBin, a_wUn, a_wTst, a_wTru, a_wAnd, a_wOr, a_wNot, a_wAndV, a_wOrV, a_wNotV, a_wIf, a_wCh, a_wNil, a_wCons, a_wStar, a_wTup, a_wLst, a_wCal, a_wCall, a_wCall0, a_wCallK, a_wCallB, a_wAugC, gInI_i, a_wCalK, a_wSl, a_wNo, a_wPart, a_wFld, a_wMth, a_wM0, a_wM1, a_wgN, a_wgNil, a_wgCons, a_wgT, a_wLc, a_wYes, a_itK, itK_lst, itK_tup, itK_str, seqD_lst, seqD_tup, a_wRg1, a_wRg2, a_wRg3, a_wEnumU, a_wEnumL, a_wZipU, a_wRevU, a_wComb, wipeD, a_mapS, a_map0, a_lenS, a_len0, List.replicate, a_appS, a_app0, a_set0, a_setS, Nat.reduceAdd, Nat.reduceSub, Nat.zero_add, true_and, and_true, gAdd_i, gAdd_s, gAdd_l, gAdd_t, gCat_l, gSub_i, gMul_i, gMul_l, gMul_t, gFdiv_i, gMod_i, gPow_i, gLt_i, gLe_i, gGt_i, gGe_i, gLen_l, gLen_t, gLen_s, gAbs_i, gToInt_i, gToInt_b, gToBl_i, gToBl_b, gToTup_l, gToTup_t, gToLst_l, gToLst_t, gMax2_i, gMin2_i, gNeg_i, gSl_l, gSl_t, gSl_s, gSlL_l, gRevL_l, gIsN_n, gIsN_b, gIsN_i, gIsN_s, gIsN_l, gIsN_t, gNotN_n, gNotN_b, gNotN_i, gNotN_s, gNotN_l, gNotN_t, truD, gEq_int, gNe_int, Bool.not_true, Bool.not_false]
    refine hr _ _ _ ⟨i, by rw [show ((s + 2 : Nat) : Int) - 1 = ((s + 1 : Nat) : Int) by omega, show (m : Int) - ((m : Int) + (i : Int) * -1) = (i : Int) by omega], by omega, by omega, ?_⟩
    simp only [a_wFn, a_wSeq, a_wNx, a_wBk, a_wCt, a_wEx, a_wSet, a_wOwn, a_wAsg, a_wPar, a_wRet, a_wRetN, a_wRetF, a_wRetFO, a_wParO, a_wFnF, a_wIfS, a_wApp, a_wExt, a_wFrz, a_wAugI, a_wSetIx, a_wAugIx, a_wFor, a_lookL0, a_lookLS, a_look0, a_lookS, a_lookO0, a_lookO1, a_lookOS, a_wV, a_wO, a_wC, a_wBin, a_wUn, a_wTst, a_wTru, a_wAnd, a_wOr, a_wNot, a_wAndV, a_wOrV, a_wNotV, a_wIf, a_wCh, a_wNil, a_wCons, a_wStar, a_wTup, a_wLst, a_wCal, a_wCall, a_wCall0, a_wCallK, a_wCallB, a_wAugC, gInI_i, a_wCalK, a_wSl, a_wNo, a_wPart, a_wFld, a_wMth, a_wM0, a_wM1, a_wgN, a_wgNil, a_wgCons, a_wgT, a_wLc, a_wYes, a_itK, itK_lst, itK_tup, itK_str, seqD_lst, seqD_tup, a_wRg1, a_wRg2, a_wRg3, a_wEnumU, a_wEnumL, a_wZipU, a_wRevU, a_wComb, wipeD, a_mapS, a_map0, a_lenS, a_len0, List.replicate, a_appS, a_app0, a_set0, a_setS, Nat.reduceAdd, Nat.reduceSub, Nat.zero_add, true_and, and_true, gAdd_i, gAdd_s, gAdd_l, gAdd_t, gCat_l, gSub_i, gMul_i, gMul_l, gMul_t, gFdiv_i, gMod_i, gPow_i, gLt_i, gLe_i, gGt_i, gGe_i, gLen_l, gLen_t, gLen_s, gAbs_i, gToInt_i, gToInt_b, gToBl_i, gToBl_b, gToTup_l, gToTup_t, gToLst_l, gToLst_t, gMax2_i, gMin2_i, gNeg_i, gSl_l, gSl_t, gSl_s, gSlL_l, gRevL_l, gIsN_n, gIsN_b, gIsN_i, gIsN_s, gIsN_l, gIsN_t, gNotN_n, gNotN_b, gNotN_i, gNotN_s, gNotN_l, gNotN_t, truD, gEq_int, gNe_int, Bool.not_true, Bool.not_false]
    refine ⟨by rw [List.length_map]; omega, ?_⟩
    refine lcL_map (fun d => match d with | .tup l => .tup (.int ((m - i : Nat) : Int) :: l) | _ => .non) (fun d K2 hd hK2 => ?_) ?_
    · obtain ⟨r, hr, rfl⟩ := List.mem_map.mp hd
      obtain ⟨r1, r2, r3⟩ := divsL_mem s i r hr
      unfold tupN
      simp only [a_wFn, a_wSeq, a_wNx, a_wBk, a_wCt, a_wEx, a_wSet, a_wOwn, a_wAsg, a_wPar, a_wRet, a_wRetN, a_wRetF, a_wRetFO, a_wParO, a_wFnF, a_wIfS, a_wApp, a_wExt, a_wFrz, a_wAugI, a_wSetIx, a_wAugIx, a_wFor, a_lookL0, a_lookLS, a_look0, a_lookS, a_lookO0, a_lookO1, a_lookOS, a_wV, a_wO, a_wC, a_wBin, a_wUn, a_wTst, a_wTru, a_wAnd, a_wOr, a_wNot, a_wAndV, a_wOrV, a_wNotV, a_wIf, a_wCh, a_wNil, a_wCons, a_wStar, a_wTup, a_wLst, a_wCal, a_wCall, a_wCall0, a_wCallK, a_wCallB, a_wAugC, gInI_i, a_wCalK, a_wSl, a_wNo, a_wPart, a_wFld, a_wMth, a_wM0, a_wM1, a_wgN, a_wgNil, a_wgCons, a_wgT, a_wLc, a_wYes, a_itK, itK_lst, itK_tup, itK_str, seqD_lst, seqD_tup, a_wRg1, a_wRg2, a_wRg3, a_wEnumU, a_wEnumL, a_wZipU, a_wRevU, a_wComb, wipeD, a_mapS, a_map0, a_lenS, a_len0, List.replicate, a_appS, a_app0, a_set0, a_setS, Nat.reduceAdd, Nat.reduceSub, Nat.zero_add, true_and, and_true, gAdd_i, gAdd_s, gAdd_l, gAdd_t, gCat_l, gSub_i, gMul_i, gMul_l, gMul_t, gFdiv_i, gMod_i, gPow_i, gLt_i, gLe_i, gGt_i, gGe_i, gLen_l, gLen_t, gLen_s, gAbs_i, gToInt_i, gToInt_b, gToBl_i, gToBl_b, gToTup_l, gToTup_t, gToLst_l, gToLst_t, gMax2_i, gMin2_i, gNeg_i, gSl_l, gSl_t, gSl_s, gSlL_l, gRevL_l, gIsN_n, gIsN_b, gIsN_i, gIsN_s, gIsN_l, gIsN_t, gNotN_n, gNotN_b, gNotN_i, gNotN_s, gNotN_l, gNotN_t, truD, gEq_int, gNe_int, Bool.not_true, Bool.not_false]
      refine ⟨by decide, by rw [List.length_map, sizeLine_eq]; omega, ?_⟩
      rw [show (m : Int) + (i : Int) * -1 = ((m - i : Nat) : Int) by omega]
      exact hK2
    · rw [List.length_map, List.length_map, List.length_map]
      have e2 : (divsB s m i).map tupN ++ ((divsL (s + 1) i).map tupN).map (fun d => match d with | .tup l => .tup (.int ((m - i : Nat) : Int) :: l) | _ => .non) = (divsB s m (i + 1)).map tupN := by
        rw [divsB_succ, List.map_append, List.map_map, List.map_map]
        rfl
      rw [e2]
      exact ⟨by rw [sizeLine_eq]; omega, hK _ ⟨_, _, rfl⟩⟩
  · obtain ⟨a, b, rfl⟩ := hI
    rw [intsC_len]
    simp only [a_wFn, a_wSeq, a_wNx, a_wBk, a_wCt, a_wEx, a_wSet, a_wOwn, a_wAsg, a_wPar, a_wRet, a_wRetN, a_wRetF, a_wRetFO, a_wParO, a_wFnF, a_wIfS, a_wApp, a_wExt, a_wFrz, a_wAugI, a_wSetIx, a_wAugIx, a_wFor, a_lookL0, a_lookLS, a_look0, a_lookS, a_lookO0, a_lookO1, a_lookOS, a_wV, a_wO, a_wC, a_wBin, a_wUn, a_wTst, a_wTru, a_wAnd, a_wOr, a_wNot, a_wAndV, a_wOrV, a_wNotV, a_wIf, a_wCh, a_wNil, a_wCons, a_wStar, a_wTup, a_wLst, a_wCal, a_wCall, a_wCall0, a_wCallK, a_wCallB, a_wAugC, gInI_i, a_wCalK, a_wSl, a_wNo, a_wPart, a_wFld, a_wMth, a_wM0, a_wM1, a_wgN, a_wgNil, a_wgCons, a_wgT, a_wLc, a_wYes, a_itK, itK_lst, itK_tup, itK_str, seqD_lst, seqD_tup, a_wRg1, a_wRg2, a_wRg3, a_wEnumU, a_wEnumL, a_wZipU, a_wRevU, a_wComb, wipeD, a_mapS, a_map0, a_lenS, a_len0, List.replicate, a_appS, a_app0, a_set0, a_setS, Nat.reduceAdd, Nat.reduceSub, Nat.zero_add, true_and, and_true, gAdd_i, gAdd_s, gAdd_l, gAdd_t, gCat_l, gSub_i, gMul_i, gMul_l, gMul_t, gFdiv_i, gMod_i, gPow_i, gLt_i, gLe_i, gGt_i, gGe_i, gLen_l, gLen_t, gLen_s, gAbs_i, gToInt_i, gToInt_b, gToBl_i, gToBl_b, gToTup_l, gToTup_t, gToLst_l, gToLst_t, gMax2_i, gMin2_i, gNeg_i, gSl_l, gSl_t, gSl_s, gSlL_l, gRevL_l, gIsN_n, gIsN_b, gIsN_i, gIsN_s, gIsN_l, gIsN_t, gNotN_n, gNotN_b, gNotN_i, gNotN_s, gNotN_l, gNotN_t, truD, gEq_int, gNe_int, Bool.not_true, Bool.not_false]
    exact hk
/-- .. for up to so many claimants -/
def f__law_allU (n : Nat) : SpF := fun ds k e => ∃ s, 1 ≤ s ∧ s ≤ n ∧ f__law_allS s ds k e
theorem ok__law_allU (n : Nat) (hn : n < 7) (ds k e) (ln : ds.length = 2) (h : f__law_allU (n + 1) ds k e) : wFnF 5 (w__law_all (f__law_allU n)) ds k e := by
  obtain ⟨s, s1, sn, h⟩ := h
  match s, s1, sn, h with
  | 1, _, _, h => exact ok__law_all1 _ ds k e ln h
  | s + 2, _, sn, h => exact ok__law_allS _ s (by omega) (fun ds k e h2 => ⟨s + 1, by omega, by omega, h2⟩) ds k e ln h
theorem all_of (B : Bl mg) (DD : OwnDef K mg "_law_all" s__law_all) : ∀ n, n < 8 → CalG P w K mg base n "_law_all" (spWF (suR K mg c) 2 (f__law_allU n)) []
  | 0, _ => (pn__law_all DD).imp (spWF_mono fun ds k e _ h => by obtain ⟨s, _, _, _⟩ := h; omega)
  | n + 1, h => (pc__law_all B DD (all_of B DD n (by omega))).imp (spWF_mono fun ds k e ln h2 => ok__law_allU n (by omega) ds k e ln h2)
def f__law_all : SpF := f__law_allU 4
theorem cs__law_all (B : Bl mg) (DD : OwnDef K mg "_law_all" s__law_all) : CalG P w K mg base 4 "_law_all" (spWF (suR K mg c) 2 f__law_all) [] := all_of B DD 4 (by omega)
theorem divsL_small : ∀ s ∈ List.range 5, ∀ m ∈ List.range 8, (divsL s m).length ≤ 120 := by decide +kernel
def w__law_near : WS := (wSeq (wSet 3 (wLc [4] (wIt (wV 1)) (wgN 4) wYes (wCall0 1 f__law_exact (wCons (wV 4) wNil))))
      (wSeq (wSet 5 (wC (.int 1)))
      (wSeq (wFor (wIt (wV 3)) (wgN 6)
      (wSet 5 (wBin LW.gMul (wV 5) (wBin gIx (wV 6) (wC (.int 1))))))
      (wSeq (wSet 7 (wLc [6] (wIt (wV 3)) (wgN 6) wYes (wBin LW.gMul (wBin gIx (wV 6) (wC (.int 0))) (wBin LW.gFdiv (wV 5) (wBin gIx (wV 6) (wC (.int 1)))))))
      (wRet (wCal gToTup (wCons (wLc [8] (wIt (wV 7)) (wgN 8) wYes (wCal gMax2 (wCons (wC (.int 0)) (wCons (wBin LW.gSub (wBin LW.gAdd (wBin LW.gFdiv (wBin LW.gMul (wV 2) (wV 8)) (wCal gSum (wCons (wV 7) wNil))) (wCall0 2 f__law_tap (wCons (wV 0) (wCons (wC (.int 3)) wNil)))) (wC (.int 1))) wNil)))) wNil)))))))
theorem pb__law_near (B : Bl mg) (C__law_exact : CalG P w K mg base 2 "_law_exact" (spW (suR K mg c) 1 f__law_exact) []) (C__law_tap : CalG P w K mg base 1 "_law_tap" (spW (suR K mg c) 2 f__law_tap) [])  : Bdy P w K mg base 2 "_law_near" s__law_near ["_law_tank_here", "_law_numbers", "_law_items_here", "_law_shares", "_law_number", "_law_bottom", "_law_share", "_law_weights", "_law_weight"] (suR K mg c) w__law_near := fun f cdv A outer s H E hr quiet =>
      (xsCons (xsLcSet (i := 3) (ps_setLc (own := [("_law_number", 4)]) (by rfl) sc__law_near.nd rfl rfl (sw_true rfl rfl rfl (by decide +kernel)) (xItC (xw (xV (pv 1)))) (blkOk_by (own := [("_law_number", 4)]) (N := ["_law_tank_here", "_law_numbers", "_law_items_here", "_law_shares", "_law_number", "_law_bottom", "_law_share", "_law_weights", "_law_weight"]) (sc := defScope s__law_near) (by decide +kernel)) (fun _ _ _ _ _ => (xgN (pg_name (i := 4) sc__law_near.nd rfl (Or.inl rfl)))) (fun _ _ _ _ _ => xPts0) (fun _ _ _ _ _ => (xCall0 (pe_cG quiet C__law_exact hr (by decide) (by rfl) (xACons (xV (pv 4)) xANil))))) (by decide))
      (xsCons (xsSet (i := 5) sc__law_near.nd rfl (Or.inr rfl) (xInt pe_int))
      (xsCons (xsFor PassesOwn.never (by rfl) (xIt (xV (pv 3))) (xgN (pg_name (i := 6) sc__law_near.nd rfl (Or.inl rfl)))
      (xsOne (xsSet (i := 5) sc__law_near.nd rfl (Or.inr rfl) (xBin op_mulU pMul (xw (xV (pv 5))) (xw (xIx ix_seq pIx (xw (xV (pv 6))) (xw (xInt pe_int)) (fun _ _ => rfl)))))))
      (xsCons (xsSet (i := 7) sc__law_near.nd rfl (Or.inr rfl) (xf (xLc (own := [("_law_share", 6)]) (by rfl) sc__law_near.nd (xItC (xw (xV (pv 3)))) (blkOk_by (own := [("_law_share", 6)]) (N := ["_law_tank_here", "_law_numbers", "_law_items_here", "_law_shares", "_law_number", "_law_bottom", "_law_share", "_law_weights", "_law_weight"]) (sc := defScope s__law_near) (by decide +kernel)) (fun _ _ _ _ _ => (xgN (pg_name (i := 6) sc__law_near.nd rfl (Or.inl rfl)))) (fun _ _ _ _ _ => xPts0) (fun _ _ _ _ _ => (xBin op_mulU pMul (xw (xIx ix_seq pIx (xw (xV (pv 6))) (xw (xInt pe_int)) (fun _ _ => rfl))) (xw (xBin op_fdivW pFdiv (xw (xV (pv 5))) (xw (xIx ix_seq pIx (xw (xV (pv 6))) (xw (xInt pe_int)) (fun _ _ => rfl))))))) (by decide))))
      (xsOne (xsRet (xw (xCB (pe_callTy call_tuple_of (by rfl) B.tuple (by decide +kernel) (xWCons (xw (xf (xLc (own := [("_law_weight", 8)]) (by rfl) sc__law_near.nd (xItC (xw (xV (pv 7)))) (blkOk_by (own := [("_law_weight", 8)]) (N := ["_law_tank_here", "_law_numbers", "_law_items_here", "_law_shares", "_law_number", "_law_bottom", "_law_share", "_law_weights", "_law_weight"]) (sc := defScope s__law_near) (by decide +kernel)) (fun _ _ _ _ _ => (xgN (pg_name (i := 8) sc__law_near.nd rfl (Or.inl rfl)))) (fun _ _ _ _ _ => xPts0) (fun _ _ _ _ _ => (xCB (pe_callB (call_max2 rfl) (by rfl) B.max (by decide +kernel) (xWCons (xw (xInt pe_int)) (xWCons (xw (xBin op_sub pSub (xw (xBin op_addU pAdd (xw (xBin op_fdivW pFdiv (xw (xBin op_mulU pMul (xw (xV (pv 2))) (xw (xV (pv 8))))) (xw (xCB (pe_callB (cr_sum rfl) (by rfl) B.sum (by decide +kernel) (xWCons (xw (xV (pv 7))) xWNil)) pSum)))) (xw (xCall0 (pe_cG quiet C__law_tap hr (by decide) (by rfl) (xACons (xV (pv 0)) (xACons (xInt pe_int) xANil))))))) (xw (xInt pe_int)))) xWNil))) pMax2)) (by decide)))) xWNil)) pToTup))))))))
theorem pc__law_near (B : Bl mg) (DD : OwnDef K mg "_law_near" s__law_near) (C__law_exact : CalG P w K mg base 2 "_law_exact" (spW (suR K mg c) 1 f__law_exact) []) (C__law_tap : CalG P w K mg base 1 "_law_tap" (spW (suR K mg c) 2 f__law_tap) [])  : CalG P w K mg base 3 "_law_near" (spW (suR K mg c) 3 (wFn 9 w__law_near)) [] :=
  calG_by DD sc__law_near rfl (fun fd f F => F.binds (fun _ _ _ _ _ _ us hl => match us, hl with | [_, _, _], _ => rfl)) (pb__law_near B C__law_exact C__law_tap)
def f__law_near : SpF := fun ds k _ => ∃ l qs m, ds = [.tnk 0, .tup l, .int m] ∧ Cls6 l qs ∧ 1 ≤ l.length ∧ l.length ≤ 6 ∧ 0 ≤ m ∧ m < 10 ^ 39 ∧ ∀ ns : List Int, ns.length = l.length → (∀ n ∈ ns, 0 ≤ n ∧ n < 10 ^ 40) → k (tupN ns)
theorem Cls6.low {l : List Dt} {qs : List (Int × Int)} (h : Cls6 l qs) : ∀ s ∈ qs.map (fun q => lowQ q.1 q.2), 1 ≤ s.1 ∧ 1 ≤ s.2 ∧ s.1.natAbs < 2 ^ 101 ∧ s.2.natAbs < 2 ^ 101 := fun s hs => by
  obtain ⟨q, hq, rfl⟩ := List.mem_map.mp hs
  have sm := h.sml q hq
  obtain ⟨g, g0, e1, e2⟩ := low_times q.1 q.2 sm.b
  have a := sm.a
  have b := sm.b
  refine ⟨?_, ?_, Nat.lt_of_le_of_lt (lowQ_le _ _).1 sm.lt.1, Nat.lt_of_le_of_lt (lowQ_le _ _).2 sm.lt.2⟩
  · rw [e1] at a
    have := Int.pos_of_mul_pos_right a g0
    exact this
  · rw [e2] at b
    have := Int.pos_of_mul_pos_right b g0
    exact this
theorem sum_bound {ws : List Int} {B : Nat} (h : ∀ x ∈ ws, 1 ≤ x ∧ x.natAbs < B) : 0 ≤ ws.sum ∧ (ws ≠ [] → 1 ≤ ws.sum) ∧ ws.sum.natAbs ≤ ws.length * B ∧ ∀ x ∈ ws, x ≤ ws.sum := by
  induction ws with
  | nil => exact ⟨by simp, fun z => absurd rfl z, by simp, fun x hx => by cases hx⟩
  | cons a ws ih =>
    obtain ⟨i0, _, i2, i3⟩ := ih fun x hx => h x (List.mem_cons_of_mem _ hx)
    have ha := h a (by simp)
    rw [List.sum_cons]
    refine ⟨by omega, fun _ => by omega, ?_, fun x hx => ?_⟩
    · rw [List.length_cons, Nat.succ_mul]
      omega
    · rcases List.mem_cons.mp hx with rfl | hx
      · omega
      · have := i3 x hx
        omega
theorem ok__law_near (ds k e) (ln : ds.length = 3) (h : f__law_near ds k e) : wFn 9 w__law_near ds k e := by
  obtain ⟨l, qs, m, rfl, cs, l1, l6, m0, m1, hk⟩ := h
  have ql := cs.len
  (simp only [a_wFn, a_wFnF, a_mapS, a_map0, List.replicate, a_appS, a_app0, a_lenS, a_len0, Nat.reduceAdd, Nat.reduceSub, Nat.zero_add]; unfold w__law_near; simp only [a_wFn, a_wSeq, a_wNx, a_wBk, a_wCt, a_wEx, a_wSet, a_wOwn, a_wAsg, a_wPar, a_wRet, a_wRetN, a_wRetF, a_wRetFO, a_wParO, a_wFnF, a_wIfS, a_wApp, a_wExt, a_wFrz, a_wAugI, a_wSetIx, a_wAugIx, a_wFor, a_lookL0, a_lookLS, a_look0, a_lookS, a_lookO0, a_lookO1, a_lookOS, a_wV, a_wO, a_wC, a_wBin, a_wUn, a_wTst, a_wTru, a_wAnd, a_wOr, a_wNot, a_wAndV, a_wOrV, a_wNotV, a_wIf, a_wCh, a_wNil, a_wCons, a_wStar, a_wTup, a_wLst, a_wCal, a_wCall, a_wCall0, a_wCallK, a_wCallB, a_wAugC, gInI_i, a_wCalK, a_wSl, a_wNo, a_wPart, a_wFld, a_wMth, a_wM0, a_wM1, a_wgN, a_wgNil, a_wgCons, a_wgT, a_wLc, a_wYes, a_itK, itK_lst, itK_tup, itK_str, seqD_lst, seqD_tup, a_wRg1, a_wRg2, a_wRg3, a_wEnumU, a_wEnumL, a_wZipU, a_wRevU, a_wComb, wipeD, a_mapS, a_map0, a_lenS, a_len0, List.replicate, a_appS, a_app0, a_set0, a_setS, Nat.reduceAdd, Nat.reduceSub, Nat.zero_add, true_and, and_true, gAdd_i, gAdd_s, gAdd_l, gAdd_t, gCat_l, gSub_i, gMul_i, gMul_l, gMul_t, gFdiv_i, gMod_i, gPow_i, gLt_i, gLe_i, gGt_i, gGe_i, gLen_l, gLen_t, gLen_s, gAbs_i, gToInt_i, gToInt_b, gToBl_i, gToBl_b, gToTup_l, gToTup_t, gToLst_l, gToLst_t, gMax2_i, gMin2_i, gNeg_i, gSl_l, gSl_t, gSl_s, gSlL_l, gRevL_l, gIsN_n, gIsN_b, gIsN_i, gIsN_s, gIsN_l, gIsN_t, gNotN_n, gNotN_b, gNotN_i, gNotN_s, gNotN_l, gNotN_t, truD, gEq_int, gNe_int, Bool.not_true, Bool.not_false])
  refine ⟨by omega, ?_⟩
  refine lcL_rel (fun i d y => ∃ s, (qs.map fun q => lowQ q.1 q.2)[i]? = some s ∧ y = prD s) (fun i x K hx hK => ?_) fun out ol hr => ?_
  · obtain ⟨q, hq, e1⟩ := nums_at cs.num hx
    have sm := cs.sml q (List.mem_of_getElem? hq)
    exact ⟨x, q, rfl, e1, sm.b, Nat.lt_trans sm.lt.2 (Nat.pow_lt_pow_right (by decide) (by decide)), hK _ ⟨_, by rw [List.getElem?_map, hq]; rfl, rfl⟩⟩
  have eo := rel_eq (by rw [List.length_map]; exact ql) ol hr
  subst eo
  have low := cs.low
  have sl : (qs.map fun q => lowQ q.1 q.2).length = l.length := by rw [List.length_map]; exact ql.symm
  generalize (qs.map fun q => lowQ q.1 q.2) = ss at low sl
  refine forL_by (fun i δ => ∃ (b : Int) (a : Option Sl), δ = [some (.val (.tnk 0)), some (.val (.tup l)), some (.val (.int m)), some (.val (.lst (ss.map prD))), none, some (.val (.int b)), a, none, none] ∧ 1 ≤ b ∧ b.natAbs < 2 ^ (1 + 101 * i) ∧ ∀ s ∈ ss.take i, s.2 ≤ b) ⟨1, none, rfl, by decide, by decide, fun s hs => by simp at hs⟩ (fun i x δ K hx hI hK => ?_) fun δ hI => ?_
  · obtain ⟨b, a, rfl, b1, b2, b3⟩ := hI
    obtain ⟨s, hs, rfl⟩ := some_map hx
    obtain ⟨s1, s2, s3, s4⟩ := low s (List.mem_of_getElem? hs)
    have lt := (List.getElem?_eq_some_iff.mp hs).1
    simp only [a_wFn, a_wSeq, a_wNx, a_wBk, a_wCt, a_wEx, a_wSet, a_wOwn, a_wAsg, a_wPar, a_wRet, a_wRetN, a_wRetF, a_wRetFO, a_wParO, a_wFnF, a_wIfS, a_wApp, a_wExt, a_wFrz, a_wAugI, a_wSetIx, a_wAugIx, a_wFor, a_lookL0, a_lookLS, a_look0, a_lookS, a_lookO0, a_lookO1, a_lookOS, a_wV, a_wO, a_wC, a_wBin, a_wUn, a_wTst, a_wTru, a_wAnd, a_wOr, a_wNot, a_wAndV, a_wOrV, a_wNotV, a_wIf, a_wCh, a_wNil, a_wCons, a_wStar, a_wTup, a_wLst, a_wCal, a_wCall, a_wCall0, a_wCallK, a_wCallB, a_wAugC, gInI_i, a_wCalK, a_wSl, a_wNo, a_wPart, a_wFld, a_wMth, a_wM0, a_wM1, a_wgN, a_wgNil, a_wgCons, a_wgT, a_wLc, a_wYes, a_itK, itK_lst, itK_tup, itK_str, seqD_lst, seqD_tup, a_wRg1, a_wRg2, a_wRg3, a_wEnumU, a_wEnumL, a_wZipU, a_wRevU, a_wComb, wipeD, a_mapS, a_map0, a_lenS, a_len0, List.replicate, a_appS, a_app0, a_set0, a_setS, Nat.reduceAdd, Nat.reduceSub, Nat.zero_add, true_and, and_true, gAdd_i, gAdd_s, gAdd_l, gAdd_t, gCat_l, gSub_i, gMul_i, gMul_l, gMul_t, gFdiv_i, gMod_i, gPow_i, gLt_i, gLe_i, gGt_i, gGe_i, gLen_l, gLen_t, gLen_s, gAbs_i, gToInt_i, gToInt_b, gToBl_i, gToBl_b, gToTup_l, gToTup_t, gToLst_l, gToLst_t, gMax2_i, gMin2_i, gNeg_i, gSl_l, gSl_t, gSl_s, gSlL_l, gRevL_l, gIsN_n, gIsN_b, gIsN_i, gIsN_s, gIsN_l, gIsN_t, gNotN_n, gNotN_b, gNotN_i, gNotN_s, gNotN_l, gNotN_t, truD, gEq_int, gNe_int, Bool.not_true, Bool.not_false]
    simp only [gIx_p1, gMul_i]
    have pm : 1 ≤ b * s.2 := Int.mul_pos (by omega) (by omega)
    refine ⟨wide_mul b2 s4 (by omega) (by decide) (by omega), hK _ ⟨_, _, rfl, pm, ?_, fun t ht => ?_⟩⟩
    · have := wide_lt b2 s4
      rwa [show 1 + 101 * i + 101 = 1 + 101 * (i + 1) by omega] at this
    · rw [take_snoc hs] at ht
      rcases List.mem_append.mp ht with z | z
      · exact Int.le_trans (b3 t z) (by have := Int.mul_le_mul_of_nonneg_left s2 (show 0 ≤ b by omega); rwa [Int.mul_one] at this)
      · rw [List.mem_singleton.mp
            z]
        have := Int.mul_le_mul_of_nonneg_right b1 (show 0 ≤ s.2 by omega)
        rwa [Int.one_mul] at this
  · obtain ⟨b, a, rfl, b1, b2, b3⟩ := hI
    rw [List.length_map, sl] at b2 b3
    rw [← sl, List.take_length] at b3
    have b4 : b.natAbs < 2 ^ 700 := Nat.lt_of_lt_of_le b2 (Nat.pow_le_pow_right (by decide) (by omega))
    simp only [a_wFn, a_wSeq, a_wNx, a_wBk, a_wCt, a_wEx, a_wSet, a_wOwn, a_wAsg, a_wPar, a_wRet, a_wRetN, a_wRetF, a_wRetFO, a_wParO, a_wFnF, a_wIfS, a_wApp, a_wExt, a_wFrz, a_wAugI, a_wSetIx, a_wAugIx, a_wFor, a_lookL0, a_lookLS, a_look0, a_lookS, a_lookO0, a_lookO1, a_lookOS, a_wV, a_wO, a_wC, a_wBin, a_wUn, a_wTst, a_wTru, a_wAnd, a_wOr, a_wNot, a_wAndV, a_wOrV, a_wNotV, a_wIf, a_wCh, a_wNil, a_wCons, a_wStar, a_wTup, a_wLst, a_wCal, a_wCall, a_wCall0, a_wCallK, a_wCallB, a_wAugC, gInI_i, a_wCalK, a_wSl, a_wNo, a_wPart, a_wFld, a_wMth, a_wM0, a_wM1, a_wgN, a_wgNil, a_wgCons, a_wgT, a_wLc, a_wYes, a_itK, itK_lst, itK_tup, itK_str, seqD_lst, seqD_tup, a_wRg1, a_wRg2, a_wRg3, a_wEnumU, a_wEnumL, a_wZipU, a_wRevU, a_wComb, wipeD, a_mapS, a_map0, a_lenS, a_len0, List.replicate, a_appS, a_app0, a_set0, a_setS, Nat.reduceAdd, Nat.reduceSub, Nat.zero_add, true_and, and_true, gAdd_i, gAdd_s, gAdd_l, gAdd_t, gCat_l, gSub_i, gMul_i, gMul_l, gMul_t, gFdiv_i, gMod_i, gPow_i, gLt_i, gLe_i, gGt_i, gGe_i, gLen_l, gLen_t, gLen_s, gAbs_i, gToInt_i, gToInt_b, gToBl_i, gToBl_b, gToTup_l, gToTup_t, gToLst_l, gToLst_t, gMax2_i, gMin2_i, gNeg_i, gSl_l, gSl_t, gSl_s, gSlL_l, gRevL_l, gIsN_n, gIsN_b, gIsN_i, gIsN_s, gIsN_l, gIsN_t, gNotN_n, gNotN_b, gNotN_i, gNotN_s, gNotN_l, gNotN_t, truD, gEq_int, gNe_int, Bool.not_true, Bool.not_false]
    rw [List.length_map]
    refine ⟨by omega, ?_⟩
    refine lcL_rel (fun _ _ y => ∃ z : Int, y = .int z ∧ 1 ≤ z ∧ z.natAbs < 2 ^ 801) (fun i x K hx hK => ?_) fun out ol hr => ?_
    · obtain ⟨s, hs, rfl⟩ := some_map hx
      obtain ⟨s1, s2, s3, s4⟩ := low s (List.mem_of_getElem? hs)
      simp only [gIx_p0, gIx_p1, gFdiv_i, gMul_i]
      have d1 : 1 ≤ b / s.2 := Int.le_ediv_of_mul_le (by omega) (by rw [Int.one_mul]; exact b3 s (List.mem_of_getElem? hs))
      have d2 : (b / s.2).natAbs < 2 ^ 700 := Nat.lt_of_le_of_lt (Int.natAbs_ediv_le_natAbs _ _) b4
      exact ⟨wide_div (b := 101) (by omega) s4 (by decide) (by decide), wide_mul s3 d2 (by decide) (by decide) (by decide), hK _ ⟨_, rfl, Int.mul_pos (by omega) (by omega), wide_lt s3 d2⟩⟩
    obtain ⟨ws, rfl, wl, hw⟩ := map_of Dt.int fun y hy => (rel_mem (R := fun _ y => ∃ z : Int, y = .int z ∧ 1 ≤ z ∧ z.natAbs < 2 ^ 801) ol hr y hy).elim fun _ h => h.2
    rw [ol, List.length_map, sl] at wl
    obtain ⟨u0, u1, u2, u3⟩ := sum_bound hw
    have wn : ws ≠ [] := fun z => by subst z; simp at wl; omega
    have v1 := u1 wn
    have v2 : ws.sum.natAbs < 2 ^ 900 := Nat.lt_of_le_of_lt u2 (Nat.lt_of_le_of_lt (Nat.mul_le_mul_right _ (show ws.length ≤ 2 ^ 3 by omega)) (by rw [← Nat.pow_add]; exact Nat.pow_lt_pow_right (by decide) (by decide)))
    have t39 : (10 : Int) ^ 39 = 1000000000000000000000000000000000000000 := by decide
    have t40 : (10 : Int) ^ 40 = 10000000000000000000000000000000000000000 := by decide
    rw [t39] at m1
    have m9 : m.natAbs < 2 ^ 140 := by omega
    rw [List.length_map, wl]
    refine ⟨by omega, ?_⟩
    refine lcL_rel (fun _ _ y => ∃ z : Int, y = .int z ∧ 0 ≤ z ∧ z < 10 ^ 40) (fun i x K hx hK => ?_) fun out ol hr => ?_
    · obtain ⟨z, hz, rfl⟩ := some_map hx
      have zm := List.mem_of_getElem? hz
      obtain ⟨z1, z2⟩ := hw z zm
      simp only [a_wFn, a_wSeq, a_wNx, a_wBk, a_wCt, a_wEx, a_wSet, a_wOwn, a_wAsg, a_wPar, a_wRet, a_wRetN, a_wRetF, a_wRetFO, a_wParO, a_wFnF, a_wIfS, a_wApp, a_wExt, a_wFrz, a_wAugI, a_wSetIx, a_wAugIx, a_wFor, a_lookL0, a_lookLS, a_look0, a_lookS, a_lookO0, a_lookO1, a_lookOS, a_wV, a_wO, a_wC, a_wBin, a_wUn, a_wTst, a_wTru, a_wAnd, a_wOr, a_wNot, a_wAndV, a_wOrV, a_wNotV, a_wIf, a_wCh, a_wNil, a_wCons, a_wStar, a_wTup, a_wLst, a_wCal, a_wCall, a_wCall0, a_wCallK, a_wCallB, a_wAugC, gInI_i, a_wCalK, a_wSl, a_wNo, a_wPart, a_wFld, a_wMth, a_wM0, a_wM1, a_wgN, a_wgNil, a_wgCons, a_wgT, a_wLc, a_wYes, a_itK, itK_lst, itK_tup, itK_str, seqD_lst, seqD_tup, a_wRg1, a_wRg2, a_wRg3, a_wEnumU, a_wEnumL, a_wZipU, a_wRevU, a_wComb, wipeD, a_mapS, a_map0, a_lenS, a_len0, List.replicate, a_appS, a_app0, a_set0, a_setS, Nat.reduceAdd, Nat.reduceSub, Nat.zero_add, true_and, and_true, gAdd_i, gAdd_s, gAdd_l, gAdd_t, gCat_l, gSub_i, gMul_i, gMul_l, gMul_t, gFdiv_i, gMod_i, gPow_i, gLt_i, gLe_i, gGt_i, gGe_i, gLen_l, gLen_t, gLen_s, gAbs_i, gToInt_i, gToInt_b, gToBl_i, gToBl_b, gToTup_l, gToTup_t, gToLst_l, gToLst_t, gMax2_i, gMin2_i, gNeg_i, gSl_l, gSl_t, gSl_s, gSlL_l, gRevL_l, gIsN_n, gIsN_b, gIsN_i, gIsN_s, gIsN_l, gIsN_t, gNotN_n, gNotN_b, gNotN_i, gNotN_s, gNotN_l, gNotN_t, truD, gEq_int, gNe_int, Bool.not_true, Bool.not_false]
      refine ⟨wide_mul m9 z2 (by decide) (by decide) (by decide), ws, intsOf_map _, ?_⟩
      simp only [a_wFn, a_wSeq, a_wNx, a_wBk, a_wCt, a_wEx, a_wSet, a_wOwn, a_wAsg, a_wPar, a_wRet, a_wRetN, a_wRetF, a_wRetFO, a_wParO, a_wFnF, a_wIfS, a_wApp, a_wExt, a_wFrz, a_wAugI, a_wSetIx, a_wAugIx, a_wFor, a_lookL0, a_lookLS, a_look0, a_lookS, a_lookO0, a_lookO1, a_lookOS, a_wV, a_wO, a_wC, a_wBin, a_wUn, a_wTst, a_wTru, a_wAnd, a_wOr, a_wNot, a_wAndV, a_wOrV, a_wNotV, a_wIf, a_wCh, a_wNil, a_wCons, a_wStar, a_wTup, a_wLst, a_wCal, a_wCall, a_wCall0, a_wCallK, a_wCallB, a_wAugC, gInI_i, a_wCalK, a_wSl, a_wNo, a_wPart, a_wFld, a_wMth, a_wM0, a_wM1, a_wgN, a_wgNil, a_wgCons, a_wgT, a_wLc, a_wYes, a_itK, itK_lst, itK_tup, itK_str, seqD_lst, seqD_tup, a_wRg1, a_wRg2, a_wRg3, a_wEnumU, a_wEnumL, a_wZipU, a_wRevU, a_wComb, wipeD, a_mapS, a_map0, a_lenS, a_len0, List.replicate, a_appS, a_app0, a_set0, a_setS, Nat.reduceAdd, Nat.reduceSub, Nat.zero_add, true_and, and_true, gAdd_i, gAdd_s, gAdd_l, gAdd_t, gCat_l, gSub_i, gMul_i, gMul_l, gMul_t, gFdiv_i, gMod_i, gPow_i, gLt_i, gLe_i, gGt_i, gGe_i, gLen_l, gLen_t, gLen_s, gAbs_i, gToInt_i, gToInt_b, gToBl_i, gToBl_b, gToTup_l, gToTup_t, gToLst_l, gToLst_t, gMax2_i, gMin2_i, gNeg_i, gSl_l, gSl_t, gSl_s, gSlL_l, gRevL_l, gIsN_n, gIsN_b, gIsN_i, gIsN_s, gIsN_l, gIsN_t, gNotN_n, gNotN_b, gNotN_i, gNotN_s, gNotN_l, gNotN_t, truD, gEq_int, gNe_int, Bool.not_true, Bool.not_false]
      refine ⟨wide_div v1 v2 (by decide) (by decide), 3, rfl, by decide, by decide, fun r r0 r1 => ?_⟩
      simp only [a_wFn, a_wSeq, a_wNx, a_wBk, a_wCt, a_wEx, a_wSet, a_wOwn, a_wAsg, a_wPar, a_wRet, a_wRetN, a_wRetF, a_wRetFO, a_wParO, a_wFnF, a_wIfS, a_wApp, a_wExt, a_wFrz, a_wAugI, a_wSetIx, a_wAugIx, a_wFor, a_lookL0, a_lookLS, a_look0, a_lookS, a_lookO0, a_lookO1, a_lookOS, a_wV, a_wO, a_wC, a_wBin, a_wUn, a_wTst, a_wTru, a_wAnd, a_wOr, a_wNot, a_wAndV, a_wOrV, a_wNotV, a_wIf, a_wCh, a_wNil, a_wCons, a_wStar, a_wTup, a_wLst, a_wCal, a_wCall, a_wCall0, a_wCallK, a_wCallB, a_wAugC, gInI_i, a_wCalK, a_wSl, a_wNo, a_wPart, a_wFld, a_wMth, a_wM0, a_wM1, a_wgN, a_wgNil, a_wgCons, a_wgT, a_wLc, a_wYes, a_itK, itK_lst, itK_tup, itK_str, seqD_lst, seqD_tup, a_wRg1, a_wRg2, a_wRg3, a_wEnumU, a_wEnumL, a_wZipU, a_wRevU, a_wComb, wipeD, a_mapS, a_map0, a_lenS, a_len0, List.replicate, a_appS, a_app0, a_set0, a_setS, Nat.reduceAdd, Nat.reduceSub, Nat.zero_add, true_and, and_true, gAdd_i, gAdd_s, gAdd_l, gAdd_t, gCat_l, gSub_i, gMul_i, gMul_l, gMul_t, gFdiv_i, gMod_i, gPow_i, gLt_i, gLe_i, gGt_i, gGe_i, gLen_l, gLen_t, gLen_s, gAbs_i, gToInt_i, gToInt_b, gToBl_i, gToBl_b, gToTup_l, gToTup_t, gToLst_l, gToLst_t, gMax2_i, gMin2_i, gNeg_i, gSl_l, gSl_t, gSl_s, gSlL_l, gRevL_l, gIsN_n, gIsN_b, gIsN_i, gIsN_s, gIsN_l, gIsN_t, gNotN_n, gNotN_b, gNotN_i, gNotN_s, gNotN_l, gNotN_t, truD, gEq_int, gNe_int, Bool.not_true, Bool.not_false]
      refine hK _ ⟨_, rfl, ?_, ?_⟩
      · split <;> omega
      · have h1 : m * z / ws.sum ≤ m := Int.ediv_le_of_le_mul (by omega) (Int.mul_le_mul_of_nonneg_left (u3 z zm) m0)
        rw [t40]
        split <;> omega
    obtain ⟨ns, rfl, nl, hn⟩ := map_of Dt.int fun y hy => (rel_mem (R := fun _ y => ∃ z : Int, y = .int z ∧ 0 ≤ z ∧ z < 10 ^ 40) (by rw [ol, List.length_map]) hr y hy).elim fun _ h => h.2
    refine hk ns ?_ hn
    rw [nl, ol, List.length_map, wl]
theorem cs__law_near (B : Bl mg) (DD : OwnDef K mg "_law_near" s__law_near) (C__law_exact : CalG P w K mg base 2 "_law_exact" (spW (suR K mg c) 1 f__law_exact) []) (C__law_tap : CalG P w K mg base 1 "_law_tap" (spW (suR K mg c) 2 f__law_tap) [])  : CalG P w K mg base 3 "_law_near" (spW (suR K mg c) 3 f__law_near) [] :=
  (pc__law_near B DD C__law_exact C__law_tap).imp (spW_mono fun ds k e ln h => ok__law_near ds k e ln h)
end

end LW

set_option Elab.async false
set_option linter.all false
set_option maxRecDepth 100000
set_option maxHeartbeats 4000100
set_option exponentiation.threshold 9000
namespace LW
open PySem PySem.Spec PyProof.Rows L2 StX
abbrev s_Rule___str__ : Stmt := inClass (topS 36) 5
theorem sc_Rule___str__ : FnScope ["self", "words", "mark"] ["self"] (defScope s_Rule___str__) := ⟨rfl, rfl, rfl, by decide +kernel, rfl, by decide +kernel, by decide +kernel⟩
local macro_rules | `(tactic| walk_at "len") => `(tactic| skip)
/-! ### the program: a rule's text -/
section
variable {P : Program} {w : World} {K : PySem.W.Frag} {mg : Str → Option Value} {base : Heap} {c : Addr}
def sp_Rule_str (K : PySem.W.Frag) (c : Addr) : Sp := fun vs H Q _ => ∃ (r : Addr) (A : List Addr) (o : Int × Int) (hd : List (Int × Int)), vs = [.ref r] ∧ RuleAt K c A H r o hd ∧ VR o hd ∧
  ∀ H', Same H H' → Q (.str (SX.S (ruleL o hd))) H'
theorem ok_Rule_str {f : Addr} {fd : FuncData} (B : Bl mg) (T : Tx K mg c) (F : Fun K "__str__" "Rule.__str__" s_Rule___str__ f fd) (C_number_text : Cal P w K mg base 2 "number_text" (sp_number_text K c) []) :
    FnOk P w K mg base CX0 (2 + 1) f fd ["self"] (sp_Rule_str K c) := by
  refine F.ok sc_Rule___str__ (fun vs H Q E h => ?_) (fun cdv A outer s H vs Q E hr h => ?_)
  · obtain ⟨_, _, _, _, rfl, _⟩ := h; rfl
  · obtain ⟨r, A0, o, hd, rfl, R, vr, k⟩ := h
    refine ⟨_, (pss_cons (ps_setLc (i := 1) (own := [("mark", 2)]) (by rfl) sc_Rule___str__.nd rfl rfl (sw_true rfl rfl rfl (by decide +kernel)) (pi_tup (pe_fld (pv 0) rfl)) (blkOk_by (own := [("mark", 2)]) (N := ["self", "words", "mark"]) (sc := defScope s_Rule___str__) (by decide +kernel)) (fun _ _ _ _ _ => (pg_name (i := 2) sc_Rule___str__.nd rfl (Or.inl rfl))) (fun _ _ _ _ _ => pts_nil) (fun _ _ _ _ _ => (pe_c C_number_text hr (by decide) (by rfl) (pa_cons (pv 2) pa_nil))))
      (pss_one (ps_ret (pe_join pe_str (pe_lst (pa_star (pv 1) (pa_cons pe_str (pa_cons (pe_c C_number_text hr (by decide) (by rfl) (pa_cons (pe_fld (pv 0) rfl) pa_nil)) pa_nil)))))))), ?_⟩
    obtain ⟨dx, v0, v1, v2, v3, e, h0, h1, h2, h3⟩ := R.ex
    have v8 := vr.len
    obtain ⟨a, ws, rfl, sq, all⟩ := is_tup h1
    have wl : ws.length = hd.length := by rw [all.len, List.length_map]
    have sq0 := sqT_full sq
    refine ⟨_, rfl, r, c, dx, _, _, rfl, e, T.cl, T.nH, lkH _ _ _, a, rfl, ⟨_, sq0⟩, fun d0 nD => ?_⟩
    refine lc_tup (K := K) (a := a) (xs := ws) (fun i H4 => Same H H4 ∧ H4 d0 = some (.lst (((hd.take i).map fun q => V.str (SX.S (qL q)))))) ⟨same_new nD, upd_same⟩ (fun i H4 _ ⟨s4, _⟩ => seqT_same s4 sq0) ?_ ?_
    · rintro i y H4 hi ⟨s4, eD⟩
      obtain ⟨d, hd', hy⟩ := iss_get' all hi
      obtain ⟨q, hq, rfl⟩ := some_map hd'
      have qm : q ∈ hd := List.mem_of_getElem? hq
      refine ⟨rfl, _, rfl, y, q, rfl, D.same s4 hy.full, (vr.oks q qm).1, fun H5 s5 => ⟨_, s5 _ _ eD, ?_, fun b' o e => ?_, ?_⟩⟩
      · rw [List.length_map,
            List.length_take]
        exact small1000 (by omega)
      · rw [upd_ne (ne_of_none e nD)]
        exact s5 _ _ (s4 _ _ e)
      · rw [upd_same, List.take_add_one, hq, List.map_append]
        rfl
    rintro H4 ⟨s4, eD⟩
    rw [wl, List.take_length] at eD
    dsimp only [gName, tSeq, tRet]
    refine ⟨⟨_, rfl⟩, _, rfl, d0, _, rfl, .inr (.inl (.inl eD)), ?_⟩
    refine ⟨_, rfl, r, c, dx, _, _, rfl, s4 _ _ e, T.cl, T.nO, lkO _ _, v0, o, rfl, D.same s4 h0.full, vr.ok, fun H5 s5 => ?_⟩
    have c124 : ("|" : Str) = SX.S [124] := by decide +kernel
    have c32 : (" " : Str) = SX.S [32] := by decide +kernel
    have el : (hd.map fun q => V.str (SX.S (qL q))) ++ [V.str ("|" : Str), V.str (SX.S (qL o))] = ((ruleParts o hd).map SX.S).map V.str := by
      unfold ruleParts
      rw [c124]
      simp only [List.map_append, List.map_map, List.map_cons, List.map_nil]
      rfl
    refine ⟨?_, fun p np => ?_⟩
    · have sl : sizeLine = 16777216 := sizeLine_eq
      rw [List.length_append, List.length_map, sl]
      show hd.length + 2 ≤ _
      omega
    refine ⟨_, p, (ruleParts o hd).map SX.S, rfl, rfl, .inl (.inl (.inl ?_)), ?_, ?_⟩
    · rw [← el]
      exact upd_same
    · have h2 : ∀ p ∈ ruleParts o hd, p.length ≤ 101 := by
        intro p hp
        unfold ruleParts at hp
        rcases List.mem_append.mp hp
              with hp | hp
        · obtain ⟨q, hq, rfl⟩ := List.mem_map.mp hp
          exact qL_len (vr.oks q hq).1
        · rcases List.mem_cons.mp hp
              with rfl | hp
          · decide
          · rw [List.mem_singleton] at hp
            subst hp
            exact qL_len vr.ok
      have h3 := sum_le h2
      have h4 : (ruleParts o hd).length = hd.length + 2 := by unfold ruleParts; simp
      have e1 : (((ruleParts o hd).map SX.S).map (fun x => x.length)).sum = ((ruleParts o hd).map (·.length)).sum := by
        rw [List.map_map]
        exact congrArg List.sum (List.map_congr_left fun q _ => SX.S_len q)
      have e2 : (" " : Str).length = 1 := by rw [c32, SX.S_len] <;> rfl
      rw [e1, e2, List.length_map, h4]
      rw [h4] at h3
      omega
    · have e : Txt.join (" " : Str) ((ruleParts o hd).map SX.S) = SX.S (ruleL o hd) := by
        rw [c32, SX.join_S]
        rfl
      show Q (.str (Txt.join (" " : Str) ((ruleParts o hd).map SX.S))) _
      rw [e]
      exact k _ ((s4.trans s5).trans (same_new np))
end

/-! ### what is shown of a rule -/
theorem mem_joinL (a : List Nat) {c : Nat} : ∀ ys : List (List Nat), c ∈ TL.joinL a ys → c ∈ a ∨ ∃ y ∈ ys, c ∈ y
  | [], h => by simp [TL.joinL] at h
  | [x], h => .inr ⟨x, by simp, by simpa [TL.joinL] using h⟩
  | x :: y :: r, h => by
    simp only [TL.joinL] at h
    rcases List.mem_append.mp
          h with h | h
    · exact .inr ⟨x, by simp, h⟩
    · rcases List.mem_append.mp
          h with h | h
      · exact .inl h
      · rcases mem_joinL a (y :: r) h with z | ⟨w, hw, z⟩
        · exact .inl z
        · exact .inr ⟨w, List.mem_cons_of_mem _ hw, z⟩
theorem qL_small {q : Int × Int} {c : Nat} (h : c ∈ qL q) : c < 200 := by
  rcases Nat.lt_or_ge c 200 with z | z
  · exact z
  · exact absurd h (qL_free q (.inr (by omega)))
theorem ruleL_small {o : Int × Int} {hd : List (Int × Int)} {c : Nat} (h : c ∈ ruleL o hd) : c < 200 := by
  rcases mem_joinL _ _ h with z | ⟨y, hy, z⟩
  · rw [List.mem_singleton.mp z]; decide
  · unfold ruleParts at hy
    rcases List.mem_append.mp hy with w | w
    · obtain ⟨q, _, rfl⟩ := List.mem_map.mp w
      exact qL_small z
    · rcases List.mem_cons.mp w with rfl | w
      · rw [List.mem_singleton.mp z]; decide
      · rw [List.mem_singleton.mp w] at z
        exact qL_small z

/-- the text of a rule in plain data -/
def deP : Dt → Int × Int
  | .tup [.int a, .int b] => (a, b)
  | _ => (0, 0)
def ruS : Dt → Str
  | .tup [o, .lst l] => SX.S (ruleL (deP o) (l.map deP))
  | _ => Str.empty
theorem ruS_ru (o : Int × Int) (hd : List (Int × Int)) : ruS (ruD o hd) = SX.S (ruleL o hd) := by
  show SX.S (ruleL (o.1, o.2) ((hd.map fun q => Dt.tup [.int q.1, .int q.2]).map deP)) = _
  rw [List.map_map]
  have : hd.map (deP ∘ fun q => Dt.tup [.int q.1, .int q.2]) = hd := by
    conv => rhs; rw [← List.map_id hd]
    exact List.map_congr_left fun q _ => rfl
  rw [this]
theorem okS_ru (o : Int × Int) (hd : List (Int × Int)) : okS (SX.S (ruleL o hd)) := okS_codes fun c hc => ruleL_small hc
theorem SO_of {K : PySem.W.Frag} {mg : Str → Option Value} {c : Addr} : StrOk (suR K mg c) 0 c (sp_Rule_str K c) ruS := ⟨fun d H v h => by
  obtain ⟨_, r, o, hd, rfl, rfl, vr, R⟩ := h
  obtain ⟨dx, v0, v1, v2, v3, e, _⟩ := R.ex
  exact ⟨r, dx, _, rfl, e, fun Q q => ⟨r, [], o, hd, rfl, R, vr, fun H' s => by rw [← ruS_ru]; exact q H' s⟩⟩⟩
end LW

set_option Elab.async false
set_option linter.all false
set_option maxRecDepth 100000
set_option maxHeartbeats 4000100
set_option exponentiation.threshold 20000
namespace LW
open L2 PySem.Spec PyProof.Rows PySem
/-! ### k06: what the law asks -/
section
variable {P : Program} {w : World} {K : PySem.W.Frag} {mg : Str → Option Value} {base : Heap} {c : Addr}
def w__law_right : WS := (wSeq (wFor (wRg1 (wC (.int 3))) (wgN 1)
      (wSeq (wPar 2 3 (wCons (wCall0 1 f__law_spec (wCons (wV 0) wNil)) (wCons (wCall0 2 f__law_claims (wCons (wV 0) (wCons (wC (.int 6)) wNil))) wNil)))
      (wSeq (wParO 4 5 (wCall0 1 f__law_rule (wCons (wV 2) wNil)) (wLst wNil))
      (wSeq (wIfS (wTst (wBin gLt (wCal gLen (wCons (wV 3) wNil)) (wC (.int 4)))) (wOwn 5 (wCall0 2 f__law_all (wCons (wCal gLen (wCons (wV 3) wNil)) (wCons (wCall0 2 f__law_tap (wCons (wV 0) (wCons (wC (.int 6)) wNil))) wNil)))) wNx)
      (wSeq (wFor (wRg1 (wC (.int 12))) (wgN 6)
      (wSeq (wSet 7 (wCall0 2 f__law_any (wCons (wV 0) (wCons (wLst (wCons (wBin LW.gPow (wC (.int 10)) (wC (.int 18))) (wCons (wBin LW.gAdd (wBin LW.gPow (wC (.int 10)) (wC (.int 38))) (wCall0 2 f__law_tap (wCons (wV 0) (wCons (wC (.int 9)) wNil)))) wNil))) wNil))))
      (wSeq (wSet 8 (wCall0 2 f__law_any (wCons (wV 0) (wCons (wLst (wCons (wCall0 2 f__law_tap (wCons (wV 0) (wCons (wC (.int 12)) wNil))) (wCons (wCall0 2 f__law_tap (wCons (wV 0) (wCons (wC (.int 100)) wNil))) (wCons (wV 7) wNil)))) wNil))))
      (wSeq (wApp 5 (wCall0 3 f__law_near (wCons (wV 0) (wCons (wV 3) (wCons (wV 8) wNil)))))
      (wApp 5 (wCal gToTup (wCons (wLc [9] (wIt (wV 3)) (wgN 9) wYes (wCall0 2 f__law_tap (wCons (wV 0) (wCons (wC (.int 5)) wNil)))) wNil)))))))
      (wSeq (wSet 10 (wTup (wCons (wCal gRepr (wCons (wV 3) wNil)) (wCons (wCal (gStrO 0 ruS) (wCons (wV 4) wNil)) wNil))))
      (wFrz 5 (wSeq (wFor (wIt (wV 5)) (wgN 11)
      (wSeq (wSet 12 (wCall0 3 f__law_just (wCons (wV 2) (wCons (wV 3) (wCons (wV 11) wNil)))))
      (wSeq (wSet 13 (wLst (wCons (wCall0 3 f_is_fair (wCons (wV 4) (wCons (wV 3) (wCons (wV 11) wNil)))) (wCons (wCallK 3 3 [2, 1, 0] f_is_fair (wCons (wV 11) (wCons (wV 3) (wCons (wV 4) wNil)))) wNil))))
      (wIfS (wTst (wBin gNe (wCal gRepr (wCons (wV 13) wNil)) (wCal gRepr (wCons (wLst (wCons (wV 12) (wCons (wV 12) wNil))) wNil)))) (wRet (wC (.bl false))) wNx))))
      (wIfS (wTst (wBin gNe (wTup (wCons (wCal gRepr (wCons (wV 3) wNil)) (wCons (wCal (gStrO 0 ruS) (wCons (wV 4) wNil)) wNil))) (wV 10))) (wRet (wC (.bl false))) wNx)))))))))
      (wRet (wC (.bl true))))
theorem pb__law_right (B : Bl mg) (C__law_spec : CalG P w K mg base 4 "_law_spec" (spW (suR K mg c) 1 f__law_spec) []) (C__law_claims : CalG P w K mg base 4 "_law_claims" (spW (suR K mg c) 2 f__law_claims) []) (C__law_rule : CalG P w K mg base 10 "_law_rule" (spW (suR K mg c) 1 f__law_rule) []) (C__law_all : CalG P w K mg base 4 "_law_all" (spWF (suR K mg c) 2 f__law_all) []) (C__law_any : CalG P w K mg base 2 "_law_any" (spW (suR K mg c) 2 f__law_any) []) (C__law_just : CalG P w K mg base 3 "_law_just" (spW (suR K mg c) 3 f__law_just) []) (C__law_tap : CalG P w K mg base 1 "_law_tap" (spW (suR K mg c) 2 f__law_tap) []) (C__law_near : CalG P w K mg base 3 "_law_near" (spW (suR K mg c) 3 f__law_near) []) (C_is_fair : CalG P w K mg base 5 "is_fair" (spW (suR K mg c) 3 f_is_fair) []) (CK_is_fair_210 : CalPG P w K mg base 5 "is_fair" ["division", "claims", "rule"] [2, 1, 0] (spW (suR K mg c) 3 f_is_fair)) (OS : OwnStr P w K mg base 3 c (sp_Rule_str K c)) : Bdy P w K mg base 10 "_law_right" s__law_right ["_law_tank_here", "_law_turn", "_law_spec_here", "_law_numbers", "_law_made", "_law_tries", "_law_k", "_law_far", "_law_items_here", "_law_number", "_law_kept", "_law_counts", "_law_due", "_law_answers"] (suR K mg c) w__law_right := fun f cdv A outer s H E hr quiet =>
      (xsCons (xsFor PassesOwn.never (by rfl) (xRg1 (by rfl) B.range (xInt pe_int)) (xgN (pg_name (i := 1) sc__law_right.nd rfl (Or.inl rfl)))
      (xsCons (xsPar (i := 2) (j := 3) (by rfl) sc__law_right.nd rfl rfl (by decide) rfl rfl (xACons (xCall0 (pe_cG quiet C__law_spec hr (by decide) (by rfl) (xACons (xV (pv 0)) xANil))) (xACons (xCall0 (pe_cG quiet C__law_claims hr (by decide) (by rfl) (xACons (xV (pv 0)) (xACons (xInt pe_int) xANil)))) xANil)) (by rfl))
      (xsCons (xsParO (i := 4) (j := 5) (by rfl) sc__law_right.nd rfl rfl (by decide) rfl rfl (xCall0 (pe_cG quiet C__law_rule hr (by decide) (by rfl) (xACons (xV (pv 2)) xANil))) (xLst xANil) (by rfl))
      (xsCons (xsIf (xTCmp op_lt pLt (xw (xCB (pe_callB call_len (by rfl) B.len (by decide +kernel) (xWCons (xw (xV (pv 3))) xWNil)) pLen)) (xw (xInt pe_int)) (nomark _)) (xsOne (xsOwn (i := 5) sc__law_right.nd rfl (Or.inl rfl) (xCallF (pe_cG quiet C__law_all hr (by decide) (by rfl) (xACons (xCB (pe_callB call_len (by rfl) B.len (by decide +kernel) (xWCons (xw (xV (pv 3))) xWNil)) pLen) (xACons (xCall0 (pe_cG quiet C__law_tap hr (by decide) (by rfl) (xACons (xV (pv 0)) (xACons (xInt pe_int) xANil)))) xANil)))))) xsNil)
      (xsCons (xsFor PassesOwn.never (by rfl) (xRg1 (by rfl) B.range (xInt pe_int)) (xgN (pg_name (i := 6) sc__law_right.nd rfl (Or.inl rfl)))
      (xsCons (xsSet (i := 7) sc__law_right.nd rfl (Or.inl rfl) (xCall0 (pe_cG quiet C__law_any hr (by decide) (by rfl) (xACons (xV (pv 0)) (xACons (xf (xLst (xACons (xBin op_pow pPow (xw (xInt pe_int)) (xw (xInt pe_int))) (xACons (xBin op_addU pAdd (xw (xBin op_pow pPow (xw (xInt pe_int)) (xw (xInt pe_int)))) (xw (xCall0 (pe_cG quiet C__law_tap hr (by decide) (by rfl) (xACons (xV (pv 0)) (xACons (xInt pe_int) xANil)))))) xANil)))) xANil)))))
      (xsCons (xsSet (i := 8) sc__law_right.nd rfl (Or.inl rfl) (xCall0 (pe_cG quiet C__law_any hr (by decide) (by rfl) (xACons (xV (pv 0)) (xACons (xf (xLst (xACons (xCall0 (pe_cG quiet C__law_tap hr (by decide) (by rfl) (xACons (xV (pv 0)) (xACons (xInt pe_int) xANil)))) (xACons (xCall0 (pe_cG quiet C__law_tap hr (by decide) (by rfl) (xACons (xV (pv 0)) (xACons (xInt pe_int) xANil)))) (xACons (xV (pv 7)) xANil))))) xANil)))))
      (xsCons (xsApp (pe_bm PySem.F.plainAttrs_list PySem.F.slot_list_append PySem.F.type_list_append mt_append (pv 5) (pa_cons (xCall0 (pe_cG quiet C__law_near hr (by decide) (by rfl) (xACons (xV (pv 0)) (xACons (xV (pv 3)) (xACons (xV (pv 8)) xANil))))) pa_nil)))
      (xsOne (xsApp (pe_bm PySem.F.plainAttrs_list PySem.F.slot_list_append PySem.F.type_list_append mt_append (pv 5) (pa_cons (xCB (pe_callTy call_tuple_of (by rfl) B.tuple (by decide +kernel) (xWCons (xw (xf (xLc (own := [("_law_number", 9)]) (by rfl) sc__law_right.nd (xItC (xw (xV (pv 3)))) (blkOk_by (own := [("_law_number", 9)]) (N := ["_law_tank_here", "_law_turn", "_law_spec_here", "_law_numbers", "_law_made", "_law_tries", "_law_k", "_law_far", "_law_items_here", "_law_number", "_law_kept", "_law_counts", "_law_due", "_law_answers"]) (sc := defScope s__law_right) (by decide +kernel)) (fun _ _ _ _ _ => (xgN (pg_name (i := 9) sc__law_right.nd rfl (Or.inl rfl)))) (fun _ _ _ _ _ => xPts0) (fun _ _ _ _ _ => (xCall0 (pe_cG quiet C__law_tap hr (by decide) (by rfl) (xACons (xV (pv 0)) (xACons (xInt pe_int) xANil))))) (by decide)))) xWNil)) pToTup) pa_nil))))))))
      (xsCons (xsSet (i := 10) sc__law_right.nd rfl (Or.inl rfl) (xTup (xACons (xCB (pe_callB (call_reprV quiet hr) (by rfl) B.repr (by decide +kernel) (xWCons (xw (xV (pv 3))) xWNil)) pRepr) (xACons (xCB (pe_callTy (call_strO OS hr (by decide)) (by rfl) B.str (by decide +kernel) (xWCons (xw (xV (pv 4))) xWNil)) (pStrO SO_of)) xANil))))
      (xsFrz (i := 5) (xsCons (xsFor PassesOwn.never (by rfl) (xIt (xV (pv 5))) (xgN (pg_name (i := 11) sc__law_right.nd rfl (Or.inl rfl)))
      (xsCons (xsSet (i := 12) sc__law_right.nd rfl (Or.inl rfl) (xCall0 (pe_cG quiet C__law_just hr (by decide) (by rfl) (xACons (xV (pv 2)) (xACons (xV (pv 3)) (xACons (xV (pv 11)) xANil))))))
      (xsCons (xsSet (i := 13) sc__law_right.nd rfl (Or.inl rfl) (xf (xLst (xACons (xCall0 (pe_cG quiet C_is_fair hr (by decide) (by rfl) (xACons (xV (pv 4)) (xACons (xV (pv 3)) (xACons (xV (pv 11)) xANil))))) (xACons (xCallK (pe_ckPG (ks := ["division", "claims", "rule"]) quiet CK_is_fair_210 hr (by decide) (by rfl) (xKCons (xV (pv 11)) (xKCons (xV (pv 3)) (xKCons (xV (pv 4)) xKNil))))) xANil)))))
      (xsOne (xsIf (xTCmp (op_neD hr.units) pNe (xw (xCB (pe_callB (call_reprV quiet hr) (by rfl) B.repr (by decide +kernel) (xWCons (xw (xV (pv 13))) xWNil)) pRepr)) (xw (xCB (pe_callB (call_reprV quiet hr) (by rfl) B.repr (by decide +kernel) (xWCons (xw (xf (xLst (xACons (xV (pv 12)) (xACons (xV (pv 12)) xANil))))) xWNil)) pRepr)) (nomark _)) (xsOne (xsRet (xw (xBl pe_bl)))) xsNil)))))
      (xsOne (xsIf (xTCmp (op_neD hr.units) pNe (xw (xTup (xACons (xCB (pe_callB (call_reprV quiet hr) (by rfl) B.repr (by decide +kernel) (xWCons (xw (xV (pv 3))) xWNil)) pRepr) (xACons (xCB (pe_callTy (call_strO OS hr (by decide)) (by rfl) B.str (by decide +kernel) (xWCons (xw (xV (pv 4))) xWNil)) (pStrO SO_of)) xANil)))) (xw (xV (pv 10))) (nomark _)) (xsOne (xsRet (xw (xBl pe_bl)))) xsNil))))))))))
      (xsOne (xsRet (xw (xBl pe_bl)))))
theorem pc__law_right (B : Bl mg) (DD : OwnDef K mg "_law_right" s__law_right) (C__law_spec : CalG P w K mg base 4 "_law_spec" (spW (suR K mg c) 1 f__law_spec) []) (C__law_claims : CalG P w K mg base 4 "_law_claims" (spW (suR K mg c) 2 f__law_claims) []) (C__law_rule : CalG P w K mg base 10 "_law_rule" (spW (suR K mg c) 1 f__law_rule) []) (C__law_all : CalG P w K mg base 4 "_law_all" (spWF (suR K mg c) 2 f__law_all) []) (C__law_any : CalG P w K mg base 2 "_law_any" (spW (suR K mg c) 2 f__law_any) []) (C__law_just : CalG P w K mg base 3 "_law_just" (spW (suR K mg c) 3 f__law_just) []) (C__law_tap : CalG P w K mg base 1 "_law_tap" (spW (suR K mg c) 2 f__law_tap) []) (C__law_near : CalG P w K mg base 3 "_law_near" (spW (suR K mg c) 3 f__law_near) []) (C_is_fair : CalG P w K mg base 5 "is_fair" (spW (suR K mg c) 3 f_is_fair) []) (CK_is_fair_210 : CalPG P w K mg base 5 "is_fair" ["division", "claims", "rule"] [2, 1, 0] (spW (suR K mg c) 3 f_is_fair)) (OS : OwnStr P w K mg base 3 c (sp_Rule_str K c)) : CalG P w K mg base 11 "_law_right" (spW (suR K mg c) 1 (wFn 14 w__law_right)) [] :=
  calG_by DD sc__law_right rfl (fun fd f F => F.binds (fun _ _ _ _ _ _ us hl => match us, hl with | [_], _ => rfl)) (pb__law_right B C__law_spec C__law_claims C__law_rule C__law_all C__law_any C__law_just C__law_tap C__law_near C_is_fair CK_is_fair_210 OS)
def f__law_right : SpF := fun ds k _ => ds = [.tnk 0] ∧ k (.bl true)
theorem Cls6.shn {l : List Dt} {qs : List (Int × Int)} (h : Cls6 l qs) (l6 : l.length ≤ 6) : ∃ p, Shw (.tup l) p := by
  have : ∀ d ∈ l, Shn 110 206 1 d := fun d hd => by
    obtain ⟨i, hi⟩ := List.getElem?_of_mem hd
    obtain ⟨q, hq, e⟩ := nums_at h.num hi
    have sm := (h.sml q (List.mem_of_getElem? hq)).lt
    rcases numD_of e with ⟨j, rfl, rfl⟩ | rfl
    · exact (Shn.int sm.1 (by decide)).mono (by decide) (by decide)
    · refine (Shn.tup (W := 102) (D := 0) fun x hx => ?_).mono (show 2 * (102 + 1) ≤ 206 by decide) (by decide)
      rcases List.mem_cons.mp hx
            with rfl | hx
      · exact Shn.int sm.1 (by decide)
      · rw [List.mem_singleton.mp hx]
        exact Shn.int sm.2 (by decide)
  refine (Shn.tup this).shw (by decide) (by decide) ?_ (by decide)
  have := Nat.mul_le_mul_right (206 + 1) l6
  omega
theorem bools_shn (a b : Bool) : ∃ p, Shw (.lst [.bl a, .bl b]) p := (Shn.lst (B := 8) (W := 0) (D := 0) fun x hx => by
  rcases List.mem_cons.mp hx
        with rfl | hx
  · exact Shn.bl _
  · rw [List.mem_singleton.mp hx]; exact Shn.bl _).shw (by decide) (by decide) (show (8 + 2) * (2 * (0 + 1)) + 8 ≤ 16777216 by decide) (by decide)
theorem bool_eq {a b : Bool} {p : Prop} (h : a = true ↔ p) (g : b = true ↔ p) : a = b := by
  cases a <;> cases b
        <;> simp_all
/-- a division that is tried -/
def TrD (n : Nat) (d : Dt) : Prop := ∃ ns : List Int, d = tupN ns ∧ ns.length = n ∧ ∀ x ∈ ns, 0 ≤ x ∧ x < 10 ^ 40
theorem TrD.okn {ns : List Int} (h : ∀ x ∈ ns, 0 ≤ x ∧ x < 10 ^ 40) : OkN ns := ⟨fun x hx => by
  obtain ⟨h0, h1⟩ := h x hx
  have : (10 : Int) ^ 40 = 10000000000000000000000000000000000000000 := by decide
  rw [this] at h1
  exact ⟨h0, Nat.lt_trans (show x.natAbs < 2 ^ 140 by omega) (Nat.pow_lt_pow_right (by decide) (by decide))⟩⟩
theorem mem_le_sum : ∀ {ns : List Int}, (∀ x ∈ ns, 0 ≤ x) → ∀ x ∈ ns, x ≤ ns.sum
  | [], _, x, hx => by cases hx
  | a :: ns, h, x, hx => by
    rw [List.sum_cons]
    have s0 : 0 ≤ ns.sum := by
      clear hx
      have h2 : ∀ x ∈ ns, 0 ≤ x := fun x hx => h x (List.mem_cons_of_mem _ hx)
      clear h
      induction ns with
      | nil => simp
      | cons b ns ih =>
        rw [List.sum_cons]
        have := h2 b (by simp)
        have := ih fun x hx => h2 x (List.mem_cons_of_mem _ hx)
        omega
    have ha := h a (by simp)
    rcases List.mem_cons.mp hx
          with rfl | hx
    · omega
    · have := mem_le_sum (fun x hx => h x (List.mem_cons_of_mem _ hx)) x hx
      omega
theorem divsL_small3 : ∀ s ∈ List.range 4, ∀ m ∈ List.range 6, (divsL s m).length ≤ 21 := by decide +kernel
theorem ok__law_right (ds k e) (ln : ds.length = 1) (h : f__law_right ds k e) : wFn 14 w__law_right ds k e := by
  obtain ⟨rfl, hk⟩ := h
  simp only [a_wFn, a_mapS, a_map0, List.replicate, a_appS, a_app0, a_lenS, a_len0, Nat.reduceAdd, Nat.reduceSub, Nat.zero_add]
  unfold w__law_right
  generalize hF : wFrz 5 _ = F
  generalize hR : wSeq (wFor (wRg1 (wC (Dt.int 12))) _ _) _ = R
  simp only [a_wFn, a_wSeq, a_wNx, a_wBk, a_wCt, a_wEx, a_wSet, a_wOwn, a_wAsg, a_wPar, a_wRet, a_wRetN, a_wRetF, a_wRetFO, a_wParO, a_wFnF, a_wIfS, a_wApp, a_wExt, a_wFrz, a_wAugI, a_wSetIx, a_wAugIx, a_wFor, a_lookL0, a_lookLS, a_look0, a_lookS, a_lookO0, a_lookO1, a_lookOS, a_wV, a_wO, a_wC, a_wBin, a_wUn, a_wTst, a_wTru, a_wAnd, a_wOr, a_wNot, a_wAndV, a_wOrV, a_wNotV, a_wIf, a_wCh, a_wNil, a_wCons, a_wStar, a_wTup, a_wLst, a_wCal, a_wCall, a_wCall0, a_wCallK, a_wCallB, a_wAugC, gInI_i, a_wCalK, a_wSl, a_wNo, a_wPart, a_wFld, a_wMth, a_wM0, a_wM1, a_wgN, a_wgNil, a_wgCons, a_wgT, a_wLc, a_wYes, a_itK, itK_lst, itK_tup, itK_str, seqD_lst, seqD_tup, a_wRg1, a_wRg2, a_wRg3, a_wEnumU, a_wEnumL, a_wZipU, a_wRevU, a_wComb, wipeD, a_mapS, a_map0, a_lenS, a_len0, List.replicate, a_appS, a_app0, a_set0, a_setS, Nat.reduceAdd, Nat.reduceSub, Nat.zero_add, true_and, and_true, gAdd_i, gAdd_s, gAdd_l, gAdd_t, gCat_l, gSub_i, gMul_i, gMul_l, gMul_t, gFdiv_i, gMod_i, gPow_i, gLt_i, gLe_i, gGt_i, gGe_i, gLen_l, gLen_t, gLen_s, gAbs_i, gToInt_i, gToInt_b, gToBl_i, gToBl_b, gToTup_l, gToTup_t, gToLst_l, gToLst_t, gMax2_i, gMin2_i, gNeg_i, gSl_l, gSl_t, gSl_s, gSlL_l, gRevL_l, gIsN_n, gIsN_b, gIsN_i, gIsN_s, gIsN_l, gIsN_t, gNotN_n, gNotN_b, gNotN_i, gNotN_s, gNotN_l, gNotN_t, truD, gEq_int, gNe_int, Bool.not_true, Bool.not_false]
  refine ⟨by decide, by decide, ?_⟩
  refine forL_by (fun i δ => ∃ a1 a2 a3 a4 a5 a6 a7 a8 a9 a10 a11 a12 a13, δ = [some (.val (.tnk 0)), a1, a2, a3, a4, a5, a6, a7, a8, a9, a10, a11, a12, a13]) ⟨_, _, _, _, _, _, _, _, _, _, _, _, _, rfl⟩ (fun i x δ K hx hI hK => ?_) fun δ hI => hk
  obtain ⟨a1, a2, a3, a4, a5, a6, a7, a8, a9, a10, a11, a12, a13, rfl⟩ := hI
  simp only [a_wFn, a_wSeq, a_wNx, a_wBk, a_wCt, a_wEx, a_wSet, a_wOwn, a_wAsg, a_wPar, a_wRet, a_wRetN, a_wRetF, a_wRetFO, a_wParO, a_wFnF, a_wIfS, a_wApp, a_wExt, a_wFrz, a_wAugI, a_wSetIx, a_wAugIx, a_wFor, a_lookL0, a_lookLS, a_look0, a_lookS, a_lookO0, a_lookO1, a_lookOS, a_wV, a_wO, a_wC, a_wBin, a_wUn, a_wTst, a_wTru, a_wAnd, a_wOr, a_wNot, a_wAndV, a_wOrV, a_wNotV, a_wIf, a_wCh, a_wNil, a_wCons, a_wStar, a_wTup, a_wLst, a_wCal, a_wCall, a_wCall0, a_wCallK, a_wCallB, a_wAugC, gInI_i, a_wCalK, a_wSl, a_wNo, a_wPart, a_wFld, a_wMth, a_wM0, a_wM1, a_wgN, a_wgNil, a_wgCons, a_wgT, a_wLc, a_wYes, a_itK, itK_lst, itK_tup, itK_str, seqD_lst, seqD_tup, a_wRg1, a_wRg2, a_wRg3, a_wEnumU, a_wEnumL, a_wZipU, a_wRevU, a_wComb, wipeD, a_mapS, a_map0, a_lenS, a_len0, List.replicate, a_appS, a_app0, a_set0, a_setS, Nat.reduceAdd, Nat.reduceSub, Nat.zero_add, true_and, and_true, gAdd_i, gAdd_s, gAdd_l, gAdd_t, gCat_l, gSub_i, gMul_i, gMul_l, gMul_t, gFdiv_i, gMod_i, gPow_i, gLt_i, gLe_i, gGt_i, gGe_i, gLen_l, gLen_t, gLen_s, gAbs_i, gToInt_i, gToInt_b, gToBl_i, gToBl_b, gToTup_l, gToTup_t, gToLst_l, gToLst_t, gMax2_i, gMin2_i, gNeg_i, gSl_l, gSl_t, gSl_s, gSlL_l, gRevL_l, gIsN_n, gIsN_b, gIsN_i, gIsN_s, gIsN_l, gIsN_t, gNotN_n, gNotN_b, gNotN_i, gNotN_s, gNotN_l, gNotN_t, truD, gEq_int, gNe_int, Bool.not_true, Bool.not_false]
  refine ⟨rfl, fun o hd vr => ?_⟩
  refine ⟨6, rfl, by decide, by decide, fun l qs cs l1 l6 => ?_⟩
  have l6' : l.length ≤ 6 := by omega
  have cl := cs.clm l1 l6'
  obtain ⟨pl, shl⟩ := cs.shn l6'
  have t18 : (10 : Int) ^ 18 = 1000000000000000000 := by decide
  have t38 : (10 : Int) ^ 38 = 100000000000000000000000000000000000000 := by decide
  have t39 : (10 : Int) ^ 39 = 1000000000000000000000000000000000000000 := by decide
  have t40 : (10 : Int) ^ 40 = 10000000000000000000000000000000000000000 := by decide
  -- the looks
  have looks : ∀ (ts : List Dt) (a6 a7 a8 a9 a11 a12 a13 : Option Sl), (∀ d ∈ ts, TrD l.length d) → F { nx := K, rt := k, bk := fun _ => k (.bl true), ct := K } [some (.val (.tnk 0)), some (.val x), some (.val (spD o hd)), some (.val (.tup l)), some (.val (.obj 0 (ruD o hd))), some (.own ts), a6, a7, a8, a9, some (.val (.tup [.str pl.shown, .str (SX.S (ruleL o hd))])), a11, a12, a13] nE := by
    intro ts a6 a7 a8 a9 a11 a12 a13 hts
    subst hF
    simp only [a_wFn, a_wSeq, a_wNx, a_wBk, a_wCt, a_wEx, a_wSet, a_wOwn, a_wAsg, a_wPar, a_wRet, a_wRetN, a_wRetF, a_wRetFO, a_wParO, a_wFnF, a_wIfS, a_wApp, a_wExt, a_wFrz, a_wAugI, a_wSetIx, a_wAugIx, a_wFor, a_lookL0, a_lookLS, a_look0, a_lookS, a_lookO0, a_lookO1, a_lookOS, a_wV, a_wO, a_wC, a_wBin, a_wUn, a_wTst, a_wTru, a_wAnd, a_wOr, a_wNot, a_wAndV, a_wOrV, a_wNotV, a_wIf, a_wCh, a_wNil, a_wCons, a_wStar, a_wTup, a_wLst, a_wCal, a_wCall, a_wCall0, a_wCallK, a_wCallB, a_wAugC, gInI_i, a_wCalK, a_wSl, a_wNo, a_wPart, a_wFld, a_wMth, a_wM0, a_wM1, a_wgN, a_wgNil, a_wgCons, a_wgT, a_wLc, a_wYes, a_itK, itK_lst, itK_tup, itK_str, seqD_lst, seqD_tup, a_wRg1, a_wRg2, a_wRg3, a_wEnumU, a_wEnumL, a_wZipU, a_wRevU, a_wComb, wipeD, a_mapS, a_map0, a_lenS, a_len0, List.replicate, a_appS, a_app0, a_set0, a_setS, Nat.reduceAdd, Nat.reduceSub, Nat.zero_add, true_and, and_true, gAdd_i, gAdd_s, gAdd_l, gAdd_t, gCat_l, gSub_i, gMul_i, gMul_l, gMul_t, gFdiv_i, gMod_i, gPow_i, gLt_i, gLe_i, gGt_i, gGe_i, gLen_l, gLen_t, gLen_s, gAbs_i, gToInt_i, gToInt_b, gToBl_i, gToBl_b, gToTup_l, gToTup_t, gToLst_l, gToLst_t, gMax2_i, gMin2_i, gNeg_i, gSl_l, gSl_t, gSl_s, gSlL_l, gRevL_l, gIsN_n, gIsN_b, gIsN_i, gIsN_s, gIsN_l, gIsN_t, gNotN_n, gNotN_b, gNotN_i, gNotN_s, gNotN_l, gNotN_t, truD, gEq_int, gNe_int, Bool.not_true, Bool.not_false]
    refine forL_by (fun i δ => ∃ b11 b12 b13, δ = [some (.val (.tnk 0)), some (.val x), some (.val (spD o hd)), some (.val (.tup l)), some (.val (.obj 0 (ruD o hd))), some (.val (.lst ts)), a6, a7, a8, a9, some (.val (.tup [.str pl.shown, .str (SX.S (ruleL o hd))])), b11, b12, b13]) ⟨_, _, _, rfl⟩ (fun j d δ K2 hd2 hI hK2 => ?_) fun δ hI => ?_
    · obtain ⟨b11, b12, b13, rfl⟩ := hI
      obtain ⟨ns, rfl, nl, hn⟩ := hts d (List.mem_of_getElem? hd2)
      simp only [a_wFn, a_wSeq, a_wNx, a_wBk, a_wCt, a_wEx, a_wSet, a_wOwn, a_wAsg, a_wPar, a_wRet, a_wRetN, a_wRetF, a_wRetFO, a_wParO, a_wFnF, a_wIfS, a_wApp, a_wExt, a_wFrz, a_wAugI, a_wSetIx, a_wAugIx, a_wFor, a_lookL0, a_lookLS, a_look0, a_lookS, a_lookO0, a_lookO1, a_lookOS, a_wV, a_wO, a_wC, a_wBin, a_wUn, a_wTst, a_wTru, a_wAnd, a_wOr, a_wNot, a_wAndV, a_wOrV, a_wNotV, a_wIf, a_wCh, a_wNil, a_wCons, a_wStar, a_wTup, a_wLst, a_wCal, a_wCall, a_wCall0, a_wCallK, a_wCallB, a_wAugC, gInI_i, a_wCalK, a_wSl, a_wNo, a_wPart, a_wFld, a_wMth, a_wM0, a_wM1, a_wgN, a_wgNil, a_wgCons, a_wgT, a_wLc, a_wYes, a_itK, itK_lst, itK_tup, itK_str, seqD_lst, seqD_tup, a_wRg1, a_wRg2, a_wRg3, a_wEnumU, a_wEnumL, a_wZipU, a_wRevU, a_wComb, wipeD, a_mapS, a_map0, a_lenS, a_len0, List.replicate, a_appS, a_app0, a_set0, a_setS, Nat.reduceAdd, Nat.reduceSub, Nat.zero_add, true_and, and_true, gAdd_i, gAdd_s, gAdd_l, gAdd_t, gCat_l, gSub_i, gMul_i, gMul_l, gMul_t, gFdiv_i, gMod_i, gPow_i, gLt_i, gLe_i, gGt_i, gGe_i, gLen_l, gLen_t, gLen_s, gAbs_i, gToInt_i, gToInt_b, gToBl_i, gToBl_b, gToTup_l, gToTup_t, gToLst_l, gToLst_t, gMax2_i, gMin2_i, gNeg_i, gSl_l, gSl_t, gSl_s, gSlL_l, gRevL_l, gIsN_n, gIsN_b, gIsN_i, gIsN_s, gIsN_l, gIsN_t, gNotN_n, gNotN_b, gNotN_i, gNotN_s, gNotN_l, gNotN_t, truD, gEq_int, gNe_int, Bool.not_true, Bool.not_false]
      refine ⟨o, hd, l, qs, ns, rfl, vr, cs, l6', hn, nl, fun b hb => ?_⟩
      simp only [a_wFn, a_wSeq, a_wNx, a_wBk, a_wCt, a_wEx, a_wSet, a_wOwn, a_wAsg, a_wPar, a_wRet, a_wRetN, a_wRetF, a_wRetFO, a_wParO, a_wFnF, a_wIfS, a_wApp, a_wExt, a_wFrz, a_wAugI, a_wSetIx, a_wAugIx, a_wFor, a_lookL0, a_lookLS, a_look0, a_lookS, a_lookO0, a_lookO1, a_lookOS, a_wV, a_wO, a_wC, a_wBin, a_wUn, a_wTst, a_wTru, a_wAnd, a_wOr, a_wNot, a_wAndV, a_wOrV, a_wNotV, a_wIf, a_wCh, a_wNil, a_wCons, a_wStar, a_wTup, a_wLst, a_wCal, a_wCall, a_wCall0, a_wCallK, a_wCallB, a_wAugC, gInI_i, a_wCalK, a_wSl, a_wNo, a_wPart, a_wFld, a_wMth, a_wM0, a_wM1, a_wgN, a_wgNil, a_wgCons, a_wgT, a_wLc, a_wYes, a_itK, itK_lst, itK_tup, itK_str, seqD_lst, seqD_tup, a_wRg1, a_wRg2, a_wRg3, a_wEnumU, a_wEnumL, a_wZipU, a_wRevU, a_wComb, wipeD, a_mapS, a_map0, a_lenS, a_len0, List.replicate, a_appS, a_app0, a_set0, a_setS, Nat.reduceAdd, Nat.reduceSub, Nat.zero_add, true_and, and_true, gAdd_i, gAdd_s, gAdd_l, gAdd_t, gCat_l, gSub_i, gMul_i, gMul_l, gMul_t, gFdiv_i, gMod_i, gPow_i, gLt_i, gLe_i, gGt_i, gGe_i, gLen_l, gLen_t, gLen_s, gAbs_i, gToInt_i, gToInt_b, gToBl_i, gToBl_b, gToTup_l, gToTup_t, gToLst_l, gToLst_t, gMax2_i, gMin2_i, gNeg_i, gSl_l, gSl_t, gSl_s, gSlL_l, gRevL_l, gIsN_n, gIsN_b, gIsN_i, gIsN_s, gIsN_l, gIsN_t, gNotN_n, gNotN_b, gNotN_i, gNotN_s, gNotN_l, gNotN_t, truD, gEq_int, gNe_int, Bool.not_true, Bool.not_false]
      refine ⟨o, hd, l, qs, ns, rfl, vr, cl, TrD.okn hn, nl, fun b1 h1 => ?_⟩
      refine ⟨rfl, o, hd, l, qs, ns, rfl, vr, cl, TrD.okn hn, nl, fun b2 h2 => ?_⟩
      rw [bool_eq h1 hb, bool_eq h2 hb]
      obtain ⟨p, shp⟩ := bools_shn b b
      refine ⟨by decide, ?_⟩
      rw [gRepr_of shp]
      refine ⟨by decide, ?_⟩
      rw [gRepr_of shp, gNe_strs shp.ok]
      exact hK2 _ ⟨_, _, _, rfl⟩
    · obtain ⟨b11, b12, b13, rfl⟩ := hI
      simp only [a_wFn, a_wSeq, a_wNx, a_wBk, a_wCt, a_wEx, a_wSet, a_wOwn, a_wAsg, a_wPar, a_wRet, a_wRetN, a_wRetF, a_wRetFO, a_wParO, a_wFnF, a_wIfS, a_wApp, a_wExt, a_wFrz, a_wAugI, a_wSetIx, a_wAugIx, a_wFor, a_lookL0, a_lookLS, a_look0, a_lookS, a_lookO0, a_lookO1, a_lookOS, a_wV, a_wO, a_wC, a_wBin, a_wUn, a_wTst, a_wTru, a_wAnd, a_wOr, a_wNot, a_wAndV, a_wOrV, a_wNotV, a_wIf, a_wCh, a_wNil, a_wCons, a_wStar, a_wTup, a_wLst, a_wCal, a_wCall, a_wCall0, a_wCallK, a_wCallB, a_wAugC, gInI_i, a_wCalK, a_wSl, a_wNo, a_wPart, a_wFld, a_wMth, a_wM0, a_wM1, a_wgN, a_wgNil, a_wgCons, a_wgT, a_wLc, a_wYes, a_itK, itK_lst, itK_tup, itK_str, seqD_lst, seqD_tup, a_wRg1, a_wRg2, a_wRg3, a_wEnumU, a_wEnumL, a_wZipU, a_wRevU, a_wComb, wipeD, a_mapS, a_map0, a_lenS, a_len0, List.replicate, a_appS, a_app0, a_set0, a_setS, Nat.reduceAdd, Nat.reduceSub, Nat.zero_add, true_and, and_true, gAdd_i, gAdd_s, gAdd_l, gAdd_t, gCat_l, gSub_i, gMul_i, gMul_l, gMul_t, gFdiv_i, gMod_i, gPow_i, gLt_i, gLe_i, gGt_i, gGe_i, gLen_l, gLen_t, gLen_s, gAbs_i, gToInt_i, gToInt_b, gToBl_i, gToBl_b, gToTup_l, gToTup_t, gToLst_l, gToLst_t, gMax2_i, gMin2_i, gNeg_i, gSl_l, gSl_t, gSl_s, gSlL_l, gRevL_l, gIsN_n, gIsN_b, gIsN_i, gIsN_s, gIsN_l, gIsN_t, gNotN_n, gNotN_b, gNotN_i, gNotN_s, gNotN_l, gNotN_t, truD, gEq_int, gNe_int, Bool.not_true, Bool.not_false]
      rw [gRepr_of shl]
      refine ⟨rfl, ?_⟩
      rw [ruS_ru]
      refine ⟨by decide, ?_⟩
      rw [gNe_pairs shl.ok (okS_ru o hd)]
      exact hK _ ⟨_, _, _, _, _, _, _, _, _, _, _, _, _, rfl⟩
  have rest : ∀ (ts : List Dt), (∀ d ∈ ts, TrD l.length d) → ts.length ≤ 100 → R { nx := K, rt := k, bk := fun _ => k (.bl true), ct := K } [some (.val (.tnk 0)), some (.val x), some (.val (spD o hd)), some (.val (.tup l)), some (.val (.obj 0 (ruD o hd))), some (.own ts), a6, a7, a8, a9, a10, a11, a12, a13] nE := by
    intro ts hts lt
    subst hR
    simp only [a_wFn, a_wSeq, a_wNx, a_wBk, a_wCt, a_wEx, a_wSet, a_wOwn, a_wAsg, a_wPar, a_wRet, a_wRetN, a_wRetF, a_wRetFO, a_wParO, a_wFnF, a_wIfS, a_wApp, a_wExt, a_wFrz, a_wAugI, a_wSetIx, a_wAugIx, a_wFor, a_lookL0, a_lookLS, a_look0, a_lookS, a_lookO0, a_lookO1, a_lookOS, a_wV, a_wO, a_wC, a_wBin, a_wUn, a_wTst, a_wTru, a_wAnd, a_wOr, a_wNot, a_wAndV, a_wOrV, a_wNotV, a_wIf, a_wCh, a_wNil, a_wCons, a_wStar, a_wTup, a_wLst, a_wCal, a_wCall, a_wCall0, a_wCallK, a_wCallB, a_wAugC, gInI_i, a_wCalK, a_wSl, a_wNo, a_wPart, a_wFld, a_wMth, a_wM0, a_wM1, a_wgN, a_wgNil, a_wgCons, a_wgT, a_wLc, a_wYes, a_itK, itK_lst, itK_tup, itK_str, seqD_lst, seqD_tup, a_wRg1, a_wRg2, a_wRg3, a_wEnumU, a_wEnumL, a_wZipU, a_wRevU, a_wComb, wipeD, a_mapS, a_map0, a_lenS, a_len0, List.replicate, a_appS, a_app0, a_set0, a_setS, Nat.reduceAdd, Nat.reduceSub, Nat.zero_add, true_and, and_true, gAdd_i, gAdd_s, gAdd_l, gAdd_t, gCat_l, gSub_i, gMul_i, gMul_l, gMul_t, gFdiv_i, gMod_i, gPow_i, gLt_i, gLe_i, gGt_i, gGe_i, gLen_l, gLen_t, gLen_s, gAbs_i, gToInt_i, gToInt_b, gToBl_i, gToBl_b, gToTup_l, gToTup_t, gToLst_l, gToLst_t, gMax2_i, gMin2_i, gNeg_i, gSl_l, gSl_t, gSl_s, gSlL_l, gRevL_l, gIsN_n, gIsN_b, gIsN_i, gIsN_s, gIsN_l, gIsN_t, gNotN_n, gNotN_b, gNotN_i, gNotN_s, gNotN_l, gNotN_t, truD, gEq_int, gNe_int, Bool.not_true, Bool.not_false]
    refine ⟨by decide, by decide, ?_⟩
    refine forL_by (fun i δ => ∃ ts' b6 b7 b8 b9, δ = [some (.val (.tnk 0)), some (.val x), some (.val (spD o hd)), some (.val (.tup l)), some (.val (.obj 0 (ruD o hd))), some (.own ts'), b6, b7, b8, b9, a10, a11, a12, a13] ∧ (∀ d ∈ ts', TrD l.length d) ∧ ts'.length = ts.length + 2 * i) ⟨ts, _, _, _, _, rfl, hts, rfl⟩ (fun j d δ K2 hd2 hI hK2 => ?_) fun δ hI => ?_
    · obtain ⟨ts', b6, b7, b8, b9, rfl, ht, tl⟩ := hI
      obtain ⟨hj, rfl⟩ := rgI_at hd2
      have hj' : j < 12 := hj
      simp only [a_wFn, a_wSeq, a_wNx, a_wBk, a_wCt, a_wEx, a_wSet, a_wOwn, a_wAsg, a_wPar, a_wRet, a_wRetN, a_wRetF, a_wRetFO, a_wParO, a_wFnF, a_wIfS, a_wApp, a_wExt, a_wFrz, a_wAugI, a_wSetIx, a_wAugIx, a_wFor, a_lookL0, a_lookLS, a_look0, a_lookS, a_lookO0, a_lookO1, a_lookOS, a_wV, a_wO, a_wC, a_wBin, a_wUn, a_wTst, a_wTru, a_wAnd, a_wOr, a_wNot, a_wAndV, a_wOrV, a_wNotV, a_wIf, a_wCh, a_wNil, a_wCons, a_wStar, a_wTup, a_wLst, a_wCal, a_wCall, a_wCall0, a_wCallK, a_wCallB, a_wAugC, gInI_i, a_wCalK, a_wSl, a_wNo, a_wPart, a_wFld, a_wMth, a_wM0, a_wM1, a_wgN, a_wgNil, a_wgCons, a_wgT, a_wLc, a_wYes, a_itK, itK_lst, itK_tup, itK_str, seqD_lst, seqD_tup, a_wRg1, a_wRg2, a_wRg3, a_wEnumU, a_wEnumL, a_wZipU, a_wRevU, a_wComb, wipeD, a_mapS, a_map0, a_lenS, a_len0, List.replicate, a_appS, a_app0, a_set0, a_setS, Nat.reduceAdd, Nat.reduceSub, Nat.zero_add, true_and, and_true, gAdd_i, gAdd_s, gAdd_l, gAdd_t, gCat_l, gSub_i, gMul_i, gMul_l, gMul_t, gFdiv_i, gMod_i, gPow_i, gLt_i, gLe_i, gGt_i, gGe_i, gLen_l, gLen_t, gLen_s, gAbs_i, gToInt_i, gToInt_b, gToBl_i, gToBl_b, gToTup_l, gToTup_t, gToLst_l, gToLst_t, gMax2_i, gMin2_i, gNeg_i, gSl_l, gSl_t, gSl_s, gSlL_l, gRevL_l, gIsN_n, gIsN_b, gIsN_i, gIsN_s, gIsN_l, gIsN_t, gNotN_n, gNotN_b, gNotN_i, gNotN_s, gNotN_l, gNotN_t, truD, gEq_int, gNe_int, Bool.not_true, Bool.not_false]
      refine ⟨⟨by decide, by decide, by decide⟩, ⟨by decide, by decide, by decide⟩, 9, rfl, by decide, by decide, fun r r0 r1 => ?_⟩
      simp only [a_wFn, a_wSeq, a_wNx, a_wBk, a_wCt, a_wEx, a_wSet, a_wOwn, a_wAsg, a_wPar, a_wRet, a_wRetN, a_wRetF, a_wRetFO, a_wParO, a_wFnF, a_wIfS, a_wApp, a_wExt, a_wFrz, a_wAugI, a_wSetIx, a_wAugIx, a_wFor, a_lookL0, a_lookLS, a_look0, a_lookS, a_lookO0, a_lookO1, a_lookOS, a_wV, a_wO, a_wC, a_wBin, a_wUn, a_wTst, a_wTru, a_wAnd, a_wOr, a_wNot, a_wAndV, a_wOrV, a_wNotV, a_wIf, a_wCh, a_wNil, a_wCons, a_wStar, a_wTup, a_wLst, a_wCal, a_wCall, a_wCall0, a_wCallK, a_wCallB, a_wAugC, gInI_i, a_wCalK, a_wSl, a_wNo, a_wPart, a_wFld, a_wMth, a_wM0, a_wM1, a_wgN, a_wgNil, a_wgCons, a_wgT, a_wLc, a_wYes, a_itK, itK_lst, itK_tup, itK_str, seqD_lst, seqD_tup, a_wRg1, a_wRg2, a_wRg3, a_wEnumU, a_wEnumL, a_wZipU, a_wRevU, a_wComb, wipeD, a_mapS, a_map0, a_lenS, a_len0, List.replicate, a_appS, a_app0, a_set0, a_setS, Nat.reduceAdd, Nat.reduceSub, Nat.zero_add, true_and, and_true, gAdd_i, gAdd_s, gAdd_l, gAdd_t, gCat_l, gSub_i, gMul_i, gMul_l, gMul_t, gFdiv_i, gMod_i, gPow_i, gLt_i, gLe_i, gGt_i, gGe_i, gLen_l, gLen_t, gLen_s, gAbs_i, gToInt_i, gToInt_b, gToBl_i, gToBl_b, gToTup_l, gToTup_t, gToLst_l, gToLst_t, gMax2_i, gMin2_i, gNeg_i, gSl_l, gSl_t, gSl_s, gSlL_l, gRevL_l, gIsN_n, gIsN_b, gIsN_i, gIsN_s, gIsN_l, gIsN_t, gNotN_n, gNotN_b, gNotN_i, gNotN_s, gNotN_l, gNotN_t, truD, gEq_int, gNe_int, Bool.not_true, Bool.not_false]
      refine ⟨by decide, _, rfl, (show 0 < 2 by decide), (show 2 < 1000 by decide), fun far hfar => ?_⟩
      have far9 : ∃ z : Int, far = .int z ∧ 0 ≤ z ∧ z < 1000000000000000000000000000000000000000 := by
        rcases List.mem_cons.mp hfar with rfl | h
        · exact ⟨_, rfl, by decide, by decide⟩
        · rw [List.mem_singleton.mp h]
          refine ⟨_, rfl, ?_, ?_⟩
          · show 0 ≤ (10 : Int) ^ 38 + r
            rw [t38]; omega
          · show (10 : Int) ^ 38 + r < _
            rw [t38]; omega
      obtain ⟨z, rfl, z0, z1⟩ := far9
      refine ⟨12, rfl, by decide, by decide, fun r2 r20 r21 => ?_⟩
      refine ⟨100, rfl, by decide, by decide, fun r3 r30 r31 => ?_⟩
      refine ⟨by decide, _, rfl, (show 0 < 3 by decide), (show 3 < 1000 by decide), fun it hit => ?_⟩
      have it9 : ∃ z : Int, it = .int z ∧ 0 ≤ z ∧ z < 1000000000000000000000000000000000000000 := by
        simp only [List.mem_cons, List.not_mem_nil, or_false] at hit
        rcases hit with rfl | rfl | rfl
        · exact ⟨_, rfl, by omega, by omega⟩
        · exact ⟨_, rfl, by omega, by omega⟩
        · exact ⟨_, rfl, z0, z1⟩
      obtain ⟨m, rfl, m0, m1⟩ := it9
      refine ⟨l, qs, m, rfl, cs, l1, l6', m0, by rw [t39]; exact m1, fun ns nl hn => ?_⟩
      refine ⟨by rw [sizeLine_eq]; omega, by omega, ?_⟩
      refine lcL_rel (fun _ _ y => ∃ z : Int, y = .int z ∧ 0 ≤ z ∧ z < 10 ^ 40) (fun i y K3 hy hK3 => ?_) fun out ol hr => ?_
      · refine ⟨5, rfl, by decide, by decide, fun r r0 r1 => hK3 _ ⟨r, rfl, r0, by rw [t40]; omega⟩⟩
      obtain ⟨ms, rfl, ml, hm⟩ := map_of Dt.int fun y hy => (rel_mem (R := fun _ y => ∃ z : Int, y = .int z ∧ 0 ≤ z ∧ z < 10 ^ 40) ol hr y hy).elim fun _ h => h.2
      rw [List.length_append,
            List.length_singleton]
      refine ⟨by rw [sizeLine_eq]; omega, hK2 _ ⟨_, _, _, _, _, rfl, fun d hd => ?_, by simp; omega⟩⟩
      rcases List.mem_append.mp hd with h | h
      · rcases List.mem_append.mp
            h with h | h
        · exact ht d h
        · rw [List.mem_singleton.mp h]
          exact ⟨ns, rfl, nl, hn⟩
      · rw [List.mem_singleton.mp h]
        exact ⟨ms, rfl, by rw [ml, ol], hm⟩
    · obtain ⟨ts', b6, b7, b8, b9, rfl, ht, tl⟩ := hI
      simp only [a_wFn, a_wSeq, a_wNx, a_wBk, a_wCt, a_wEx, a_wSet, a_wOwn, a_wAsg, a_wPar, a_wRet, a_wRetN, a_wRetF, a_wRetFO, a_wParO, a_wFnF, a_wIfS, a_wApp, a_wExt, a_wFrz, a_wAugI, a_wSetIx, a_wAugIx, a_wFor, a_lookL0, a_lookLS, a_look0, a_lookS, a_lookO0, a_lookO1, a_lookOS, a_wV, a_wO, a_wC, a_wBin, a_wUn, a_wTst, a_wTru, a_wAnd, a_wOr, a_wNot, a_wAndV, a_wOrV, a_wNotV, a_wIf, a_wCh, a_wNil, a_wCons, a_wStar, a_wTup, a_wLst, a_wCal, a_wCall, a_wCall0, a_wCallK, a_wCallB, a_wAugC, gInI_i, a_wCalK, a_wSl, a_wNo, a_wPart, a_wFld, a_wMth, a_wM0, a_wM1, a_wgN, a_wgNil, a_wgCons, a_wgT, a_wLc, a_wYes, a_itK, itK_lst, itK_tup, itK_str, seqD_lst, seqD_tup, a_wRg1, a_wRg2, a_wRg3, a_wEnumU, a_wEnumL, a_wZipU, a_wRevU, a_wComb, wipeD, a_mapS, a_map0, a_lenS, a_len0, List.replicate, a_appS, a_app0, a_set0, a_setS, Nat.reduceAdd, Nat.reduceSub, Nat.zero_add, true_and, and_true, gAdd_i, gAdd_s, gAdd_l, gAdd_t, gCat_l, gSub_i, gMul_i, gMul_l, gMul_t, gFdiv_i, gMod_i, gPow_i, gLt_i, gLe_i, gGt_i, gGe_i, gLen_l, gLen_t, gLen_s, gAbs_i, gToInt_i, gToInt_b, gToBl_i, gToBl_b, gToTup_l, gToTup_t, gToLst_l, gToLst_t, gMax2_i, gMin2_i, gNeg_i, gSl_l, gSl_t, gSl_s, gSlL_l, gRevL_l, gIsN_n, gIsN_b, gIsN_i, gIsN_s, gIsN_l, gIsN_t, gNotN_n, gNotN_b, gNotN_i, gNotN_s, gNotN_l, gNotN_t, truD, gEq_int, gNe_int, Bool.not_true, Bool.not_false]
      rw [gRepr_of shl]
      refine ⟨rfl, ?_⟩
      rw [ruS_ru]
      exact ⟨by decide, looks ts' _ _ _ _ _ _ _ ht⟩
  simp only [a_wFn, a_wSeq, a_wNx, a_wBk, a_wCt, a_wEx, a_wSet, a_wOwn, a_wAsg, a_wPar, a_wRet, a_wRetN, a_wRetF, a_wRetFO, a_wParO, a_wFnF, a_wIfS, a_wApp, a_wExt, a_wFrz, a_wAugI, a_wSetIx, a_wAugIx, a_wFor, a_lookL0, a_lookLS, a_look0, a_lookS, a_lookO0, a_lookO1, a_lookOS, a_wV, a_wO, a_wC, a_wBin, a_wUn, a_wTst, a_wTru, a_wAnd, a_wOr, a_wNot, a_wAndV, a_wOrV, a_wNotV, a_wIf, a_wCh, a_wNil, a_wCons, a_wStar, a_wTup, a_wLst, a_wCal, a_wCall, a_wCall0, a_wCallK, a_wCallB, a_wAugC, gInI_i, a_wCalK, a_wSl, a_wNo, a_wPart, a_wFld, a_wMth, a_wM0, a_wM1, a_wgN, a_wgNil, a_wgCons, a_wgT, a_wLc, a_wYes, a_itK, itK_lst, itK_tup, itK_str, seqD_lst, seqD_tup, a_wRg1, a_wRg2, a_wRg3, a_wEnumU, a_wEnumL, a_wZipU, a_wRevU, a_wComb, wipeD, a_mapS, a_map0, a_lenS, a_len0, List.replicate, a_appS, a_app0, a_set0, a_setS, Nat.reduceAdd, Nat.reduceSub, Nat.zero_add, true_and, and_true, gAdd_i, gAdd_s, gAdd_l, gAdd_t, gCat_l, gSub_i, gMul_i, gMul_l, gMul_t, gFdiv_i, gMod_i, gPow_i, gLt_i, gLe_i, gGt_i, gGe_i, gLen_l, gLen_t, gLen_s, gAbs_i, gToInt_i, gToInt_b, gToBl_i, gToBl_b, gToTup_l, gToTup_t, gToLst_l, gToLst_t, gMax2_i, gMin2_i, gNeg_i, gSl_l, gSl_t, gSl_s, gSlL_l, gRevL_l, gIsN_n, gIsN_b, gIsN_i, gIsN_s, gIsN_l, gIsN_t, gNotN_n, gNotN_b, gNotN_i, gNotN_s, gNotN_l, gNotN_t, truD, gEq_int, gNe_int, Bool.not_true, Bool.not_false]
  refine ⟨o, hd, rfl, vr, ?_⟩
  simp only [a_wFn, a_wSeq, a_wNx, a_wBk, a_wCt, a_wEx, a_wSet, a_wOwn, a_wAsg, a_wPar, a_wRet, a_wRetN, a_wRetF, a_wRetFO, a_wParO, a_wFnF, a_wIfS, a_wApp, a_wExt, a_wFrz, a_wAugI, a_wSetIx, a_wAugIx, a_wFor, a_lookL0, a_lookLS, a_look0, a_lookS, a_lookO0, a_lookO1, a_lookOS, a_wV, a_wO, a_wC, a_wBin, a_wUn, a_wTst, a_wTru, a_wAnd, a_wOr, a_wNot, a_wAndV, a_wOrV, a_wNotV, a_wIf, a_wCh, a_wNil, a_wCons, a_wStar, a_wTup, a_wLst, a_wCal, a_wCall, a_wCall0, a_wCallK, a_wCallB, a_wAugC, gInI_i, a_wCalK, a_wSl, a_wNo, a_wPart, a_wFld, a_wMth, a_wM0, a_wM1, a_wgN, a_wgNil, a_wgCons, a_wgT, a_wLc, a_wYes, a_itK, itK_lst, itK_tup, itK_str, seqD_lst, seqD_tup, a_wRg1, a_wRg2, a_wRg3, a_wEnumU, a_wEnumL, a_wZipU, a_wRevU, a_wComb, wipeD, a_mapS, a_map0, a_lenS, a_len0, List.replicate, a_appS, a_app0, a_set0, a_setS, Nat.reduceAdd, Nat.reduceSub, Nat.zero_add, true_and, and_true, gAdd_i, gAdd_s, gAdd_l, gAdd_t, gCat_l, gSub_i, gMul_i, gMul_l, gMul_t, gFdiv_i, gMod_i, gPow_i, gLt_i, gLe_i, gGt_i, gGe_i, gLen_l, gLen_t, gLen_s, gAbs_i, gToInt_i, gToInt_b, gToBl_i, gToBl_b, gToTup_l, gToTup_t, gToLst_l, gToLst_t, gMax2_i, gMin2_i, gNeg_i, gSl_l, gSl_t, gSl_s, gSlL_l, gRevL_l, gIsN_n, gIsN_b, gIsN_i, gIsN_s, gIsN_l, gIsN_t, gNotN_n, gNotN_b, gNotN_i, gNotN_s, gNotN_l, gNotN_t, truD, gEq_int, gNe_int, Bool.not_true, Bool.not_false]
  refine ⟨by decide, ?_⟩
  by_cases l4 : (l.length : Int) < 4
  · rw [decide_eq_true l4]
    refine ⟨6, rfl, by decide, by decide, fun r r0 r1 => ?_⟩
    obtain ⟨m, rfl⟩ := Int.eq_ofNat_of_zero_le r0
    have small := divsL_small l.length (List.mem_range.mpr (by omega)) m (List.mem_range.mpr (by omega))
    refine ⟨l.length, by omega, by omega, m, rfl, by omega, Nat.le_trans small (by decide), ?_⟩
    simp only [a_wFn, a_wSeq, a_wNx, a_wBk, a_wCt, a_wEx, a_wSet, a_wOwn, a_wAsg, a_wPar, a_wRet, a_wRetN, a_wRetF, a_wRetFO, a_wParO, a_wFnF, a_wIfS, a_wApp, a_wExt, a_wFrz, a_wAugI, a_wSetIx, a_wAugIx, a_wFor, a_lookL0, a_lookLS, a_look0, a_lookS, a_lookO0, a_lookO1, a_lookOS, a_wV, a_wO, a_wC, a_wBin, a_wUn, a_wTst, a_wTru, a_wAnd, a_wOr, a_wNot, a_wAndV, a_wOrV, a_wNotV, a_wIf, a_wCh, a_wNil, a_wCons, a_wStar, a_wTup, a_wLst, a_wCal, a_wCall, a_wCall0, a_wCallK, a_wCallB, a_wAugC, gInI_i, a_wCalK, a_wSl, a_wNo, a_wPart, a_wFld, a_wMth, a_wM0, a_wM1, a_wgN, a_wgNil, a_wgCons, a_wgT, a_wLc, a_wYes, a_itK, itK_lst, itK_tup, itK_str, seqD_lst, seqD_tup, a_wRg1, a_wRg2, a_wRg3, a_wEnumU, a_wEnumL, a_wZipU, a_wRevU, a_wComb, wipeD, a_mapS, a_map0, a_lenS, a_len0, List.replicate, a_appS, a_app0, a_set0, a_setS, Nat.reduceAdd, Nat.reduceSub, Nat.zero_add, true_and, and_true, gAdd_i, gAdd_s, gAdd_l, gAdd_t, gCat_l, gSub_i, gMul_i, gMul_l, gMul_t, gFdiv_i, gMod_i, gPow_i, gLt_i, gLe_i, gGt_i, gGe_i, gLen_l, gLen_t, gLen_s, gAbs_i, gToInt_i, gToInt_b, gToBl_i, gToBl_b, gToTup_l, gToTup_t, gToLst_l, gToLst_t, gMax2_i, gMin2_i, gNeg_i, gSl_l, gSl_t, gSl_s, gSlL_l, gRevL_l, gIsN_n, gIsN_b, gIsN_i, gIsN_s, gIsN_l, gIsN_t, gNotN_n, gNotN_b, gNotN_i, gNotN_s, gNotN_l, gNotN_t, truD, gEq_int, gNe_int, Bool.not_true, Bool.not_false]
    refine rest _ (fun d hd => ?_) ?_
    · obtain ⟨ns, hn, rfl⟩ := List.mem_map.mp hd
      obtain ⟨s, hs⟩ : ∃ s, l.length = s + 1 := ⟨l.length - 1, by omega⟩
      rw [hs] at hn
      obtain ⟨n1, n2, n3⟩ := divsL_mem s m ns hn
      refine ⟨ns, rfl, by rw [n1, hs], fun x hx => ⟨n2 x hx, ?_⟩⟩
      have := mem_le_sum n2 x hx
      rw [n3] at this
      rw [t40]
      omega
    · rw [List.length_map]
      have small3 := divsL_small3 l.length (List.mem_range.mpr (by omega)) m (List.mem_range.mpr (by omega))
      omega
  · rw [decide_eq_false l4]
    exact rest [] (fun d hd => by cases hd) (by decide)
theorem cs__law_right (B : Bl mg) (DD : OwnDef K mg "_law_right" s__law_right) (C__law_spec : CalG P w K mg base 4 "_law_spec" (spW (suR K mg c) 1 f__law_spec) []) (C__law_claims : CalG P w K mg base 4 "_law_claims" (spW (suR K mg c) 2 f__law_claims) []) (C__law_rule : CalG P w K mg base 10 "_law_rule" (spW (suR K mg c) 1 f__law_rule) []) (C__law_all : CalG P w K mg base 4 "_law_all" (spWF (suR K mg c) 2 f__law_all) []) (C__law_any : CalG P w K mg base 2 "_law_any" (spW (suR K mg c) 2 f__law_any) []) (C__law_just : CalG P w K mg base 3 "_law_just" (spW (suR K mg c) 3 f__law_just) []) (C__law_tap : CalG P w K mg base 1 "_law_tap" (spW (suR K mg c) 2 f__law_tap) []) (C__law_near : CalG P w K mg base 3 "_law_near" (spW (suR K mg c) 3 f__law_near) []) (C_is_fair : CalG P w K mg base 5 "is_fair" (spW (suR K mg c) 3 f_is_fair) []) (CK_is_fair_210 : CalPG P w K mg base 5 "is_fair" ["division", "claims", "rule"] [2, 1, 0] (spW (suR K mg c) 3 f_is_fair)) (OS : OwnStr P w K mg base 3 c (sp_Rule_str K c)) : CalG P w K mg base 11 "_law_right" (spW (suR K mg c) 1 f__law_right) [] :=
  (pc__law_right B DD C__law_spec C__law_claims C__law_rule C__law_all C__law_any C__law_just C__law_tap C__law_near C_is_fair CK_is_fair_210 OS).imp (spW_mono fun ds k e ln h => ok__law_right ds k e ln h)
end

end LW

set_option Elab.async false
set_option linter.all false
set_option maxRecDepth 100000
set_option maxHeartbeats 4000100
set_option exponentiation.threshold 9000
namespace LW
open PySem PySem.Spec PyProof.Rows L2 StX
local macro_rules | `(tactic| walk_at "len") => `(tactic| skip)
/-! ### the law's own def -/
section
variable {P : Program} {w : World} {K : PySem.W.Frag} {mg : Str → Option Value} {base : Heap} {c : Addr}
def sp__law_right (K : PySem.W.Frag) (c : Addr) : Sp := fun vs H Q _ => ∃ (a : Addr), vs = [.ref a] ∧ TankAt H a ∧ ∀ H', Go [a] H H' → Q (.bl true) H'
def sp_law (K : PySem.W.Frag) : Sp := fun vs H Q _ => ∃ (a : Addr) (ns : List Int), vs = [.ref a] ∧ SqL K H a (ns.map V.int) ∧ ns.length ≤ 63 ∧ ∀ H', Q (.bl true) H'
theorem ok_law {f : Addr} {fd : FuncData} (B : Bl mg) (F : Fun K "law" "law" s_law f fd) (C__law_tank : Cal P w K mg base 1 "_law_tank" (sp__law_tank K c) []) (C__law_right : CalG P w K mg base 11 "_law_right" (sp__law_right K c) []) :
    FnG P w K mg base CX0 12 f fd ["_law_script"] (sp_law K) := by
  refine Fun_okG F sc_law (fun vs H Q E h => ?_) (fun cdv A outer s H vs Q E hr quiet h => ?_)
  · obtain ⟨_, _, rfl, _⟩ := h
    rfl
  · obtain ⟨a, ns, rfl, hS, hn, q⟩ := h
    have hq : (A.deeper (envOfC "law" (defScope s_law) s.heap.objs.size f cdv)).guards = some [] := quiet
    refine ⟨_, (pss_one (ps_ret (pe_callB (cr_all rfl) (by rfl) B.all (by decide +kernel) (pa_cons (pe_lc (own := [("_law_k", 1)]) (by rfl) sc_law.nd (pi_range1 (by rfl) B.range (pa_cons (pe_callB (call_max2 rfl) (by rfl) B.max (by decide +kernel) (pa_cons pe_int (pa_cons (pe_callB (call_min2 rfl) (by rfl) B.min (by decide +kernel) (pa_cons (pe_callB call_len_seq (by rfl) B.len (by decide +kernel) (pa_cons (pv 0) pa_nil)) (pa_cons pe_int pa_nil))) pa_nil))) pa_nil)) (blkOk_by (own := [("_law_k", 1)]) (N := ["_law_script", "_law_k"]) (sc := defScope s_law) (by decide +kernel)) (fun _ _ _ _ _ => (pg_name (i := 1) sc_law.nd rfl (Or.inl rfl))) (fun _ _ _ _ _ => pts_nil) (fun _ _ _ _ _ => (pe_cG hq C__law_right hr (by decide) (by rfl) (pa_cons (pe_c C__law_tank hr (by decide) (by rfl) (pa_cons (pv 0) (pa_cons (pv 1) pa_nil))) pa_nil)))) pa_nil)))), ?_⟩
    obtain ⟨N, eN, hN⟩ : ∃ N : Int, (if (if (6 : Int) < ((ns.map V.int).length : Int) then (6 : Int) else ((ns.map V.int).length : Int)) > 2 then (if (6 : Int) < ((ns.map V.int).length : Int) then (6 : Int) else ((ns.map V.int).length : Int)) else 2) = N ∧ 2 ≤ N ∧ N ≤ 6 := ⟨_, rfl, by split <;> (try split) <;> omega, by split <;> (try split) <;> omega⟩
    refine ⟨_, rfl, a, _, rfl, .inl hS, _, _, rfl, _, _, rfl, N, congrArg (fun z => [V.int z]) eN, by omega, by omega, fun D nD => ?_⟩
    have nDa : ∀ H', Same H H' → SqL K H' a (ns.map V.int) := fun H' s => s.seq hS
    refine lc_range (lo := 0) (fun i H2 => Same H H2 ∧ H2 D = some (.lst (List.replicate i (V.bl true)))) ⟨same_new nD, upd_same⟩ ?_ ?_
    · rintro i H2 hi ⟨sm, eD⟩
      refine ⟨rfl, ?_⟩
      refine ⟨_, rfl, _, rfl, a, ns, _, rfl, nDa _ sm, by omega, by omega, by omega, fun p H3 sm3 np tk => ?_⟩
      refine ⟨p, rfl, tk, fun H4 go => ?_⟩
      have npD : D ≠ p := ne_of_none eD np
      have sm4 : Same H2 H4 := fun b o e => go.keep b o (by simpa using ne_of_none e np) (sm3 b o e)
      refine ⟨_, sm4 _ _ eD, by rw [List.length_replicate]; exact small1000 (by omega), fun b o e => ?_, ?_⟩
      · rw [upd_ne (ne_of_none e nD)]
        exact sm4 _ _ (sm _ _ e)
      · rw [upd_same, List.replicate_succ']
    · rintro H2 ⟨sm, eD⟩
      refine ⟨D, List.replicate _ true, rfl, .inl (.inl (by rw [List.map_replicate]; exact eD)), ?_⟩
      rw [show (List.replicate N.toNat true).all id = true from by simp]
      exact q _
end

/-- what the law asks, from what its text computes on plain data -/
theorem br__law_right {P : Program} {w : World} {K : PySem.W.Frag} {mg : Str → Option Value} {base : Heap} {c : Addr} {n : Nat} (C : CalG P w K mg base n "_law_right" (spW (suR K mg c) 1 f__law_right) []) : CalG P w K mg base n "_law_right" (sp__law_right K c) [] :=
  C.imp fun vs H Q E ⟨a, e, t, q⟩ => by
    subst e
    have hd : Hd [a] H := fun b hb => by rw [List.mem_singleton.mp hb]; exact t.ne
    refine ⟨[(a, 0)], [a], [.tnk 0], fun d => d = .bl true, fun _ => False, rfl, hd, fun x hx => by rw [List.mem_singleton.mp hx]; exact List.mem_singleton.mpr rfl, fun x hx => ?_, .cons (.tnk (List.mem_singleton.mpr rfl)) .nil, ⟨rfl, rfl⟩, fun v d H' s m hv hk => ?_, fun _ _ _ _ _ _ _ z => z.elim⟩
    · rw [List.mem_singleton.mp hx]
      obtain ⟨x, y, z, e, r⟩ := t.ex
      exact ⟨_, e, x, y, z, rfl, r⟩
    · subst hk
      rw [hv.bl_eq]
      exact q H' ⟨fun b o n h => s.keep b o (by simpa using n) (by simp) h, fun h => held_stp s m h⟩

end LW

set_option Elab.async false
set_option linter.all false
set_option maxRecDepth 100000
set_option maxHeartbeats 4000100
set_option exponentiation.threshold 9000
namespace LW
open L2 PySem.Spec PyProof.Rows PySem
/-- the class Rule -/
structure RuK (K : PySem.W.Frag) (c : Addr) : Prop where
  mark : ∃ (f : Addr) (fd : FuncData), Fun K "mark" "Rule.mark" s_Rule_mark f fd ∧ Meth K c "mark" f
  init : ∃ (f : Addr) (fd : FuncData), Fun K "__init__" "Rule.__init__" s_Rule___init__ f fd ∧ Mk K c f
  read : ∃ (mc : Value) (p f : Addr) (fd : FuncData), Fun K "read" "Rule.read" s_Rule_read f fd ∧ SMet K c mc "read" p f
/-- marks as integers -/
structure WhK (K : PySem.W.Frag) (c : Addr) : Prop where
  whole : ∃ (f : Addr) (fd : FuncData), Fun K "whole_mark" "Rule.whole_mark" s_Rule_whole_mark f fd ∧ Meth K c "whole_mark" f
/-- the text of a rule -/
structure StK (K : PySem.W.Frag) (c : Addr) : Prop where
  str : ∃ (f : Addr) (fd : FuncData), Fun K "__str__" "Rule.__str__" s_Rule___str__ f fd ∧ Meth K c "__str__" f
theorem finishL {l : PySem.W.OpenLaw} {w : World} {K : PySem.W.Frag} {h : Heap} {mg : Str → Option Value} {fa c : Addr} (X : K.In h) (G : h.Ns mainGlobals mg) (hfa : mg "law" = some (.ref fa)) (B : Bl mg) (T : Tx K mg c) (RK : RuK K c) (CI : ClsI K c) (WK : WhK K c) (SK : StK K c) (TC : TxC mg) (D_is_int : OwnDef K mg "is_int" s_is_int) (D_is_count : OwnDef K mg "is_count" s_is_count) (D_is_number : OwnDef K mg "is_number" s_is_number) (D_as_pair : OwnDef K mg "as_pair" s_as_pair) (D_lowest : OwnDef K mg "lowest" s_lowest) (D_is_less : OwnDef K mg "is_less" s_is_less) (D__int_text : OwnDef K mg "_int_text" s__int_text) (D__read_int : OwnDef K mg "_read_int" s__read_int) (D_is_digits : OwnDef K mg "is_digits" s_is_digits) (D_number_text : OwnDef K mg "number_text" s_number_text) (D_read_number : OwnDef K mg "read_number" s_read_number) (D__is_offset : OwnDef K mg "_is_offset" s__is_offset) (D__plain_mark : OwnDef K mg "_plain_mark" s__plain_mark) (D__is_next_mark : OwnDef K mg "_is_next_mark" s__is_next_mark) (D__lowest_head : OwnDef K mg "_lowest_head" s__lowest_head) (D_common_bottom : OwnDef K mg "common_bottom" s_common_bottom) (D_is_positive : OwnDef K mg "is_positive" s_is_positive) (D_as_inverse : OwnDef K mg "as_inverse" s_as_inverse) (D_in_integers : OwnDef K mg "in_integers" s_in_integers) (D_check_rule : OwnDef K mg "check_rule" s_check_rule) (D_check_claims : OwnDef K mg "check_claims" s_check_claims) (D_check_division : OwnDef K mg "check_division" s_check_division) (D_delays_of : OwnDef K mg "delays_of" s_delays_of) (D_next_dues : OwnDef K mg "next_dues" s_next_dues) (D_last_dues : OwnDef K mg "last_dues" s_last_dues) (D_is_fair : OwnDef K mg "is_fair" s_is_fair) (D__law_tank : OwnDef K mg "_law_tank" s__law_tank) (D__law_tap : OwnDef K mg "_law_tap" s__law_tap) (D__law_any : OwnDef K mg "_law_any" s__law_any) (D__law_low : OwnDef K mg "_law_low" s__law_low) (D__law_exact : OwnDef K mg "_law_exact" s__law_exact) (D__law_under : OwnDef K mg "_law_under" s__law_under) (D__law_written : OwnDef K mg "_law_written" s__law_written) (D__law_head : OwnDef K mg "_law_head" s__law_head) (D__law_spec : OwnDef K mg "_law_spec" s__law_spec) (D__law_mark : OwnDef K mg "_law_mark" s__law_mark) (D__law_text : OwnDef K mg "_law_text" s__law_text) (D__law_rule : OwnDef K mg "_law_rule" s__law_rule) (D__law_claim : OwnDef K mg "_law_claim" s__law_claim) (D__law_claims : OwnDef K mg "_law_claims" s__law_claims) (D__law_just : OwnDef K mg "_law_just" s__law_just) (D__law_all : OwnDef K mg "_law_all" s__law_all) (D__law_near : OwnDef K mg "_law_near" s__law_near) (D__law_right : OwnDef K mg "_law_right" s__law_right) (D_law : OwnDef K mg "law" s_law) :
    ∃ fd : FuncData, (∀ (s : Shared) (u : Value), BindsTo s fd ⟨[u], []⟩ [("_law_script", u)]) ∧ ∀ base : Heap, K.In base → base.Ns mainGlobals mg → FnG l.prog w K mg base CX0 12 fa fd ["_law_script"] (sp_law K) := by
  obtain ⟨f, fd, F, hm⟩ := D_law.ex
  have e := hfa.symm.trans hm
  cases e
  have F0 := F
  obtain ⟨oc, od, kV, doc, pm, an, cdv, ct, osl,
        rfl, lk, hcd⟩ := F.ex
  refine ⟨PySem.W.fnOf "law" "law" (defArgs s_law) (defBody s_law) (defScope s_law) .none kV doc pm an cdv ct, fun s u => .of_eq rfl, fun base _ _ => ?_⟩
  have C_is_int : Cal l.prog w K mg base 1 "is_int" (sp_is_int K c) [] := cal_is_int B D_is_int
  have C_is_count : Cal l.prog w K mg base 2 "is_count" (sp_is_count K c) [] := cal_is_count B D_is_count C_is_int
  have C_is_number : Cal l.prog w K mg base 2 "is_number" (sp_is_number K c) [] := cal_is_number B D_is_number C_is_int
  have C_as_pair : Cal l.prog w K mg base 1 "as_pair" (sp_as_pair K c) [] := cal_as_pair B D_as_pair
  have C_lowest : Cal l.prog w K mg base 2 "lowest" (sp_lowest K c) [] := cal_lowest B D_lowest C_as_pair T
  have C_is_less : Cal l.prog w K mg base 1 "is_less" (sp_is_less K c) [] := cal_is_less B D_is_less
  have C__int_text : Cal l.prog w K mg base 1 "_int_text" (sp__int_text K c) [] := cal__int_text B D__int_text  T
  have C__read_int : Cal l.prog w K mg base 1 "_read_int" (sp__read_int K c) [] := cal__read_int B D__read_int  T
  have C_is_digits : Cal l.prog w K mg base 1 "is_digits" (sp_is_digits K c) [] := cal_is_digits B D_is_digits
  have C_number_text : Cal l.prog w K mg base 2 "number_text" (sp_number_text K c) [] := cal_number_text B D_number_text C__int_text
  have C_read_number : Cal l.prog w K mg base 3 "read_number" (sp_read_number K c) [] := cal_read_number B D_read_number C__read_int C_lowest C_is_number C_number_text C_is_digits
  have C__is_offset : Cal l.prog w K mg base 3 "_is_offset" (sp__is_offset K c) [] := cal__is_offset B D__is_offset C_lowest C_is_number
  have C__plain_mark : Cal l.prog w K mg base 1 "_plain_mark" (sp__plain_mark K c) [] := cal__plain_mark B D__plain_mark
  have C__is_next_mark : Cal l.prog w K mg base 3 "_is_next_mark" (sp__is_next_mark K c) [] := cal__is_next_mark B D__is_next_mark C_lowest C_is_number C_is_less
  have C__lowest_head : Cal l.prog w K mg base 4 "_lowest_head" (sp__lowest_head K c) [] := cal__lowest_head B D__lowest_head C__is_next_mark C_lowest C_is_less C__plain_mark T
  have C_common_bottom : Cal l.prog w K mg base 1 "common_bottom" (sp_common_bottom K c) [] := cal_common_bottom B D_common_bottom  T
  obtain ⟨fm, fdm, Fm, mem⟩ := RK.mark
  obtain ⟨fi, fdi, Fi, Mki⟩ := RK.init
  obtain ⟨mc, p, fr, fdr, Fr, smr⟩ := RK.read
  obtain ⟨M_mark, Ok_mark⟩ : Met l.prog w K mg base 3 c "mark" (sp_Rule_mark K c) ∧ FnOk l.prog w K mg base CX0 3 fm fdm ["self", "number"] (sp_Rule_mark K c) := met_Rule_mark B T Fm mem C__plain_mark C_is_count
  have MR := mak_Rule B T Fi Mki C__is_offset C_lowest C__lowest_head C_common_bottom M_mark
  have SR := sta_read B T Fr smr C_read_number MR
  obtain ⟨fw, fdw, Fw, mew⟩ := WK.whole
  obtain ⟨M_whole, _⟩ : Met l.prog w K mg base 1 c "whole_mark" (sp_Rule_whole_mark K c) ∧ FnOk l.prog w K mg base CX0 1 fw fdw ["self", "number"] (sp_Rule_whole_mark K c) := met_Rule_whole_mark B T Fw mew
  have PM_whole := br_whole_mark (mg := mg) M_whole
  have C__law_tank : Cal l.prog w K mg base 1 "_law_tank" (sp__law_tank K c) [] := cal__law_tank B D__law_tank
  have C__law_tap : Cal l.prog w K mg base 1 "_law_tap" (sp__law_tap K c) [] := cal__law_tap B D__law_tap
  have C__law_any : Cal l.prog w K mg base 2 "_law_any" (sp__law_any K c) [] := cal__law_any B D__law_any C__law_tap
  have C__law_low : Cal l.prog w K mg base 1 "_law_low" (sp__law_low K c) [] := cal__law_low B D__law_low
  have C__law_exact : Cal l.prog w K mg base 2 "_law_exact" (sp__law_exact K c) [] := cal__law_exact B D__law_exact C__law_low
  have C__law_under : Cal l.prog w K mg base 1 "_law_under" (sp__law_under K c) [] := cal__law_under B D__law_under
  have C__law_written : Cal l.prog w K mg base 1 "_law_written" (sp__law_written K c) [] := cal__law_written B D__law_written
  have C__law_head : Cal l.prog w K mg base 3 "_law_head" (sp__law_head K c) [] := cal__law_head B D__law_head C__law_any C__law_low C__law_under C__law_tap
  have C__law_spec : Cal l.prog w K mg base 4 "_law_spec" (sp__law_spec K c) [] := cal__law_spec B D__law_spec C__law_any C__law_low C__law_head C__law_tap
  have C__law_mark : Cal l.prog w K mg base 1 "_law_mark" (sp__law_mark K c) [] := cal__law_mark B D__law_mark
  have C__law_text : Cal l.prog w K mg base 2 "_law_text" (sp__law_text K c) [] := cal__law_text B D__law_text C__law_written
  have C__law_rule : Cal l.prog w K mg base 10 "_law_rule" (sp__law_rule K c) [] := cal__law_rule B D__law_rule C__law_text SR
  obtain ⟨fs, fds, Fs, ms⟩ := SK.str
  have OS : OwnStr l.prog w K mg base 3 c (sp_Rule_str K c) := ⟨fs, fds, _, ok_Rule_str B T Fs C_number_text, ms.at_, ms.fn, Fs.binds (fun _ _ _ _ _ _ us hl => match us, hl with | [_], _ => rfl)⟩
  have P_is_int := cs_is_int (P := l.prog) (w := w) (base := base) (c := c) B D_is_int
  have P_is_count := cs_is_count (P := l.prog) (w := w) (base := base) (c := c) B D_is_count P_is_int
  have P_is_number := cs_is_number (P := l.prog) (w := w) (base := base) (c := c) B D_is_number P_is_int
  have P_as_pair := cs_as_pair (P := l.prog) (w := w) (base := base) (c := c) B D_as_pair
  have P_is_positive := cs_is_positive (P := l.prog) (w := w) (base := base) (c := c) B D_is_positive P_is_number P_as_pair
  have P_lowest := cs_lowest (P := l.prog) (w := w) (base := base) (c := c) B D_lowest P_as_pair T
  have P_as_inverse := cs_as_inverse (P := l.prog) (w := w) (base := base) (c := c) B D_as_inverse P_as_pair
  have P_common_bottom := cs_common_bottom (P := l.prog) (w := w) (base := base) (c := c) B D_common_bottom T
  have P_in_integers := cs_in_integers (P := l.prog) (w := w) (base := base) (c := c) B D_in_integers P_common_bottom P_as_pair
  have P_check_rule := cs_check_rule (P := l.prog) (w := w) (base := base) (c := c) B D_check_rule T.g_Rule (IO_of T CI)
  have P_check_claims := cs_check_claims (P := l.prog) (w := w) (base := base) (c := c) B D_check_claims P_is_positive TC
  have P_check_division := cs_check_division (P := l.prog) (w := w) (base := base) (c := c) B D_check_division P_is_count
  have P_delays_of := cs_delays_of (P := l.prog) (w := w) (base := base) (c := c) B D_delays_of P_in_integers P_as_inverse
  have P_next_dues := cs_next_dues (P := l.prog) (w := w) (base := base) (c := c) B D_next_dues PM_whole
  have P_last_dues := cs_last_dues (P := l.prog) (w := w) (base := base) (c := c) B D_last_dues PM_whole
  have P_is_fair := cs_is_fair (P := l.prog) (w := w) (base := base) (c := c) B D_is_fair P_check_rule P_check_claims P_check_division P_delays_of P_last_dues P_next_dues
  have CK_is_fair_210 := ck_is_fair_210 (P := l.prog) (w := w) (base := base) (c := c) B D_is_fair P_check_rule P_check_claims P_check_division P_delays_of P_last_dues P_next_dues
  have P__law_tap := br__law_tap (c := c) (mg := mg) C__law_tap
  have P__law_any := br__law_any (c := c) (mg := mg) C__law_any
  have P__law_low := br__law_low (c := c) (mg := mg) C__law_low
  have P__law_exact := br__law_exact (c := c) (mg := mg) C__law_exact
  have P__law_under := br__law_under (c := c) (mg := mg) C__law_under
  have P__law_mark := br__law_mark (c := c) (mg := mg) C__law_mark
  have P__law_rule := br__law_rule (c := c) (mg := mg) C__law_rule
  have P__law_head := cs__law_head (P := l.prog) (w := w) (base := base) (c := c) B D__law_head P__law_any P__law_low P__law_under P__law_tap
  have P__law_spec := cs__law_spec (P := l.prog) (w := w) (base := base) (c := c) B D__law_spec P__law_any P__law_low P__law_head P__law_tap
  have P__law_claim := cs__law_claim (P := l.prog) (w := w) (base := base) (c := c) B D__law_claim P__law_any P__law_tap
  have P__law_claims := cs__law_claims (P := l.prog) (w := w) (base := base) (c := c) B D__law_claims P__law_claim P__law_tap
  have P__law_just := cs__law_just (P := l.prog) (w := w) (base := base) (c := c) B D__law_just P__law_under P__law_mark P__law_exact
  have P__law_all := cs__law_all (P := l.prog) (w := w) (base := base) (c := c) B D__law_all
  have P__law_near := cs__law_near (P := l.prog) (w := w) (base := base) (c := c) B D__law_near P__law_exact P__law_tap
  have P__law_right := cs__law_right (P := l.prog) (w := w) (base := base) (c := c) B D__law_right P__law_spec P__law_claims P__law_rule P__law_all P__law_any P__law_just P__law_tap P__law_near P_is_fair CK_is_fair_210 OS
  exact ok_law B F0 C__law_tank (br__law_right P__law_right)

end LW

set_option Elab.async false
set_option linter.all false
set_option maxRecDepth 100000
set_option maxHeartbeats 4000100
namespace LW
theorem ofK {K : PySem.W.Frag} {h : PySem.Heap} (X : K.In h) {B : PySem.W.Frag → Prop} (x : B K) : B K := x
end LW
open PySem.W PyProof.Rows PySem
set_option maxRecDepth 100100 in
set_option maxHeartbeats 0 in
theorem PySem.Challenge.cw_wholeshares_k06_whole_fairness_by_its_co_holds : PySem.Challenge.rw_wholeshares_k06_whole_fairness_by_its_co.Holds := by
  w_on; o_law; k_head
  (case hw => w_witness2)
  k_fill
  refine LW.law_walk (l := PySem.Challenge.rw_wholeshares_k06_whole_fairness_by_its_co) (n := 63) (k := 12) (x := "_law_script") (sp := LW.sp_law) rfl (by decide) rfl ⟨rfl, by decide, by decide⟩ (fun w h Y => by first | exact PySem.W.kIn_of Y | exact PySem.W.km_in_of Y) ?F (fun _ _ a ns hl hS => ⟨a, ns, rfl, hS, hl, fun _ => rfl⟩)
  case F =>
    intro w mg fa h KX G XH hmg
    have B : LW.Bl mg := by
      constructor <;> exact PySem.W.mg_none_of KX G (by k_is)
    have D_is_int := LW.ofK KX (B := fun K => LW.OwnDef K mg "is_int" LW.s_is_int) (by
      refine' LW.own_mk KX G ?a ?l ?c ?k
      (case a => first | k_is | rfl | decide +kernel)
      (case l => first | k_is | rfl | decide +kernel)
      (case c => first | k_is | rfl | decide +kernel)
      (case k => first | k_is | rfl | decide +kernel))
    have D_is_count := LW.ofK KX (B := fun K => LW.OwnDef K mg "is_count" LW.s_is_count) (by
      refine' LW.own_mk KX G ?a ?l ?c ?k
      (case a => first | k_is | rfl | decide +kernel)
      (case l => first | k_is | rfl | decide +kernel)
      (case c => first | k_is | rfl | decide +kernel)
      (case k => first | k_is | rfl | decide +kernel))
    have D_is_number := LW.ofK KX (B := fun K => LW.OwnDef K mg "is_number" LW.s_is_number) (by
      refine' LW.own_mk KX G ?a ?l ?c ?k
      (case a => first | k_is | rfl | decide +kernel)
      (case l => first | k_is | rfl | decide +kernel)
      (case c => first | k_is | rfl | decide +kernel)
      (case k => first | k_is | rfl | decide +kernel))
    have D_as_pair := LW.ofK KX (B := fun K => LW.OwnDef K mg "as_pair" LW.s_as_pair) (by
      refine' LW.own_mk KX G ?a ?l ?c ?k
      (case a => first | k_is | rfl | decide +kernel)
      (case l => first | k_is | rfl | decide +kernel)
      (case c => first | k_is | rfl | decide +kernel)
      (case k => first | k_is | rfl | decide +kernel))
    have D_lowest := LW.ofK KX (B := fun K => LW.OwnDef K mg "lowest" LW.s_lowest) (by
      refine' LW.own_mk KX G ?a ?l ?c ?k
      (case a => first | k_is | rfl | decide +kernel)
      (case l => first | k_is | rfl | decide +kernel)
      (case c => first | k_is | rfl | decide +kernel)
      (case k => first | k_is | rfl | decide +kernel))
    have D_is_less := LW.ofK KX (B := fun K => LW.OwnDef K mg "is_less" LW.s_is_less) (by
      refine' LW.own_mk KX G ?a ?l ?c ?k
      (case a => first | k_is | rfl | decide +kernel)
      (case l => first | k_is | rfl | decide +kernel)
      (case c => first | k_is | rfl | decide +kernel)
      (case k => first | k_is | rfl | decide +kernel))
    have D__int_text := LW.ofK KX (B := fun K => LW.OwnDef K mg "_int_text" LW.s__int_text) (by
      refine' LW.own_mk KX G ?a ?l ?c ?k
      (case a => first | k_is | rfl | decide +kernel)
      (case l => first | k_is | rfl | decide +kernel)
      (case c => first | k_is | rfl | decide +kernel)
      (case k => first | k_is | rfl | decide +kernel))
    have D__read_int := LW.ofK KX (B := fun K => LW.OwnDef K mg "_read_int" LW.s__read_int) (by
      refine' LW.own_mk KX G ?a ?l ?c ?k
      (case a => first | k_is | rfl | decide +kernel)
      (case l => first | k_is | rfl | decide +kernel)
      (case c => first | k_is | rfl | decide +kernel)
      (case k => first | k_is | rfl | decide +kernel))
    have D_is_digits := LW.ofK KX (B := fun K => LW.OwnDef K mg "is_digits" LW.s_is_digits) (by
      refine' LW.own_mk KX G ?a ?l ?c ?k
      (case a => first | k_is | rfl | decide +kernel)
      (case l => first | k_is | rfl | decide +kernel)
      (case c => first | k_is | rfl | decide +kernel)
      (case k => first | k_is | rfl | decide +kernel))
    have D_number_text := LW.ofK KX (B := fun K => LW.OwnDef K mg "number_text" LW.s_number_text) (by
      refine' LW.own_mk KX G ?a ?l ?c ?k
      (case a => first | k_is | rfl | decide +kernel)
      (case l => first | k_is | rfl | decide +kernel)
      (case c => first | k_is | rfl | decide +kernel)
      (case k => first | k_is | rfl | decide +kernel))
    have D_read_number := LW.ofK KX (B := fun K => LW.OwnDef K mg "read_number" LW.s_read_number) (by
      refine' LW.own_mk KX G ?a ?l ?c ?k
      (case a => first | k_is | rfl | decide +kernel)
      (case l => first | k_is | rfl | decide +kernel)
      (case c => first | k_is | rfl | decide +kernel)
      (case k => first | k_is | rfl | decide +kernel))
    have D__is_offset := LW.ofK KX (B := fun K => LW.OwnDef K mg "_is_offset" LW.s__is_offset) (by
      refine' LW.own_mk KX G ?a ?l ?c ?k
      (case a => first | k_is | rfl | decide +kernel)
      (case l => first | k_is | rfl | decide +kernel)
      (case c => first | k_is | rfl | decide +kernel)
      (case k => first | k_is | rfl | decide +kernel))
    have D__plain_mark := LW.ofK KX (B := fun K => LW.OwnDef K mg "_plain_mark" LW.s__plain_mark) (by
      refine' LW.own_mk KX G ?a ?l ?c ?k
      (case a => first | k_is | rfl | decide +kernel)
      (case l => first | k_is | rfl | decide +kernel)
      (case c => first | k_is | rfl | decide +kernel)
      (case k => first | k_is | rfl | decide +kernel))
    have D__is_next_mark := LW.ofK KX (B := fun K => LW.OwnDef K mg "_is_next_mark" LW.s__is_next_mark) (by
      refine' LW.own_mk KX G ?a ?l ?c ?k
      (case a => first | k_is | rfl | decide +kernel)
      (case l => first | k_is | rfl | decide +kernel)
      (case c => first | k_is | rfl | decide +kernel)
      (case k => first | k_is | rfl | decide +kernel))
    have D__lowest_head := LW.ofK KX (B := fun K => LW.OwnDef K mg "_lowest_head" LW.s__lowest_head) (by
      refine' LW.own_mk KX G ?a ?l ?c ?k
      (case a => first | k_is | rfl | decide +kernel)
      (case l => first | k_is | rfl | decide +kernel)
      (case c => first | k_is | rfl | decide +kernel)
      (case k => first | k_is | rfl | decide +kernel))
    have D_common_bottom := LW.ofK KX (B := fun K => LW.OwnDef K mg "common_bottom" LW.s_common_bottom) (by
      refine' LW.own_mk KX G ?a ?l ?c ?k
      (case a => first | k_is | rfl | decide +kernel)
      (case l => first | k_is | rfl | decide +kernel)
      (case c => first | k_is | rfl | decide +kernel)
      (case k => first | k_is | rfl | decide +kernel))
    have D_is_positive := LW.ofK KX (B := fun K => LW.OwnDef K mg "is_positive" LW.s_is_positive) (by
      refine' LW.own_mk KX G ?a ?l ?c ?k
      (case a => first | k_is | rfl | decide +kernel)
      (case l => first | k_is | rfl | decide +kernel)
      (case c => first | k_is | rfl | decide +kernel)
      (case k => first | k_is | rfl | decide +kernel))
    have D_as_inverse := LW.ofK KX (B := fun K => LW.OwnDef K mg "as_inverse" LW.s_as_inverse) (by
      refine' LW.own_mk KX G ?a ?l ?c ?k
      (case a => first | k_is | rfl | decide +kernel)
      (case l => first | k_is | rfl | decide +kernel)
      (case c => first | k_is | rfl | decide +kernel)
      (case k => first | k_is | rfl | decide +kernel))
    have D_in_integers := LW.ofK KX (B := fun K => LW.OwnDef K mg "in_integers" LW.s_in_integers) (by
      refine' LW.own_mk KX G ?a ?l ?c ?k
      (case a => first | k_is | rfl | decide +kernel)
      (case l => first | k_is | rfl | decide +kernel)
      (case c => first | k_is | rfl | decide +kernel)
      (case k => first | k_is | rfl | decide +kernel))
    have D_check_rule := LW.ofK KX (B := fun K => LW.OwnDef K mg "check_rule" LW.s_check_rule) (by
      refine' LW.own_mk KX G ?a ?l ?c ?k
      (case a => first | k_is | rfl | decide +kernel)
      (case l => first | k_is | rfl | decide +kernel)
      (case c => first | k_is | rfl | decide +kernel)
      (case k => first | k_is | rfl | decide +kernel))
    have D_check_claims := LW.ofK KX (B := fun K => LW.OwnDef K mg "check_claims" LW.s_check_claims) (by
      refine' LW.own_mk KX G ?a ?l ?c ?k
      (case a => first | k_is | rfl | decide +kernel)
      (case l => first | k_is | rfl | decide +kernel)
      (case c => first | k_is | rfl | decide +kernel)
      (case k => first | k_is | rfl | decide +kernel))
    have D_check_division := LW.ofK KX (B := fun K => LW.OwnDef K mg "check_division" LW.s_check_division) (by
      refine' LW.own_mk KX G ?a ?l ?c ?k
      (case a => first | k_is | rfl | decide +kernel)
      (case l => first | k_is | rfl | decide +kernel)
      (case c => first | k_is | rfl | decide +kernel)
      (case k => first | k_is | rfl | decide +kernel))
    have D_delays_of := LW.ofK KX (B := fun K => LW.OwnDef K mg "delays_of" LW.s_delays_of) (by
      refine' LW.own_mk KX G ?a ?l ?c ?k
      (case a => first | k_is | rfl | decide +kernel)
      (case l => first | k_is | rfl | decide +kernel)
      (case c => first | k_is | rfl | decide +kernel)
      (case k => first | k_is | rfl | decide +kernel))
    have D_next_dues := LW.ofK KX (B := fun K => LW.OwnDef K mg "next_dues" LW.s_next_dues) (by
      refine' LW.own_mk KX G ?a ?l ?c ?k
      (case a => first | k_is | rfl | decide +kernel)
      (case l => first | k_is | rfl | decide +kernel)
      (case c => first | k_is | rfl | decide +kernel)
      (case k => first | k_is | rfl | decide +kernel))
    have D_last_dues := LW.ofK KX (B := fun K => LW.OwnDef K mg "last_dues" LW.s_last_dues) (by
      refine' LW.own_mk KX G ?a ?l ?c ?k
      (case a => first | k_is | rfl | decide +kernel)
      (case l => first | k_is | rfl | decide +kernel)
      (case c => first | k_is | rfl | decide +kernel)
      (case k => first | k_is | rfl | decide +kernel))
    have D_is_fair := LW.ofK KX (B := fun K => LW.OwnDef K mg "is_fair" LW.s_is_fair) (by
      refine' LW.own_mk KX G ?a ?l ?c ?k
      (case a => first | k_is | rfl | decide +kernel)
      (case l => first | k_is | rfl | decide +kernel)
      (case c => first | k_is | rfl | decide +kernel)
      (case k => first | k_is | rfl | decide +kernel))
    have D__law_tank := LW.ofK KX (B := fun K => LW.OwnDef K mg "_law_tank" LW.s__law_tank) (by
      refine' LW.own_mk KX G ?a ?l ?c ?k
      (case a => first | k_is | rfl | decide +kernel)
      (case l => first | k_is | rfl | decide +kernel)
      (case c => first | k_is | rfl | decide +kernel)
      (case k => first | k_is | rfl | decide +kernel))
    have D__law_tap := LW.ofK KX (B := fun K => LW.OwnDef K mg "_law_tap" LW.s__law_tap) (by
      refine' LW.own_mk KX G ?a ?l ?c ?k
      (case a => first | k_is | rfl | decide +kernel)
      (case l => first | k_is | rfl | decide +kernel)
      (case c => first | k_is | rfl | decide +kernel)
      (case k => first | k_is | rfl | decide +kernel))
    have D__law_any := LW.ofK KX (B := fun K => LW.OwnDef K mg "_law_any" LW.s__law_any) (by
      refine' LW.own_mk KX G ?a ?l ?c ?k
      (case a => first | k_is | rfl | decide +kernel)
      (case l => first | k_is | rfl | decide +kernel)
      (case c => first | k_is | rfl | decide +kernel)
      (case k => first | k_is | rfl | decide +kernel))
    have D__law_low := LW.ofK KX (B := fun K => LW.OwnDef K mg "_law_low" LW.s__law_low) (by
      refine' LW.own_mk KX G ?a ?l ?c ?k
      (case a => first | k_is | rfl | decide +kernel)
      (case l => first | k_is | rfl | decide +kernel)
      (case c => first | k_is | rfl | decide +kernel)
      (case k => first | k_is | rfl | decide +kernel))
    have D__law_exact := LW.ofK KX (B := fun K => LW.OwnDef K mg "_law_exact" LW.s__law_exact) (by
      refine' LW.own_mk KX G ?a ?l ?c ?k
      (case a => first | k_is | rfl | decide +kernel)
      (case l => first | k_is | rfl | decide +kernel)
      (case c => first | k_is | rfl | decide +kernel)
      (case k => first | k_is | rfl | decide +kernel))
    have D__law_under := LW.ofK KX (B := fun K => LW.OwnDef K mg "_law_under" LW.s__law_under) (by
      refine' LW.own_mk KX G ?a ?l ?c ?k
      (case a => first | k_is | rfl | decide +kernel)
      (case l => first | k_is | rfl | decide +kernel)
      (case c => first | k_is | rfl | decide +kernel)
      (case k => first | k_is | rfl | decide +kernel))
    have D__law_written := LW.ofK KX (B := fun K => LW.OwnDef K mg "_law_written" LW.s__law_written) (by
      refine' LW.own_mk KX G ?a ?l ?c ?k
      (case a => first | k_is | rfl | decide +kernel)
      (case l => first | k_is | rfl | decide +kernel)
      (case c => first | k_is | rfl | decide +kernel)
      (case k => first | k_is | rfl | decide +kernel))
    have D__law_head := LW.ofK KX (B := fun K => LW.OwnDef K mg "_law_head" LW.s__law_head) (by
      refine' LW.own_mk KX G ?a ?l ?c ?k
      (case a => first | k_is | rfl | decide +kernel)
      (case l => first | k_is | rfl | decide +kernel)
      (case c => first | k_is | rfl | decide +kernel)
      (case k => first | k_is | rfl | decide +kernel))
    have D__law_spec := LW.ofK KX (B := fun K => LW.OwnDef K mg "_law_spec" LW.s__law_spec) (by
      refine' LW.own_mk KX G ?a ?l ?c ?k
      (case a => first | k_is | rfl | decide +kernel)
      (case l => first | k_is | rfl | decide +kernel)
      (case c => first | k_is | rfl | decide +kernel)
      (case k => first | k_is | rfl | decide +kernel))
    have D__law_mark := LW.ofK KX (B := fun K => LW.OwnDef K mg "_law_mark" LW.s__law_mark) (by
      refine' LW.own_mk KX G ?a ?l ?c ?k
      (case a => first | k_is | rfl | decide +kernel)
      (case l => first | k_is | rfl | decide +kernel)
      (case c => first | k_is | rfl | decide +kernel)
      (case k => first | k_is | rfl | decide +kernel))
    have D__law_text := LW.ofK KX (B := fun K => LW.OwnDef K mg "_law_text" LW.s__law_text) (by
      refine' LW.own_mk KX G ?a ?l ?c ?k
      (case a => first | k_is | rfl | decide +kernel)
      (case l => first | k_is | rfl | decide +kernel)
      (case c => first | k_is | rfl | decide +kernel)
      (case k => first | k_is | rfl | decide +kernel))
    have D__law_rule := LW.ofK KX (B := fun K => LW.OwnDef K mg "_law_rule" LW.s__law_rule) (by
      refine' LW.own_mk KX G ?a ?l ?c ?k
      (case a => first | k_is | rfl | decide +kernel)
      (case l => first | k_is | rfl | decide +kernel)
      (case c => first | k_is | rfl | decide +kernel)
      (case k => first | k_is | rfl | decide +kernel))
    have D__law_claim := LW.ofK KX (B := fun K => LW.OwnDef K mg "_law_claim" LW.s__law_claim) (by
      refine' LW.own_mk KX G ?a ?l ?c ?k
      (case a => first | k_is | rfl | decide +kernel)
      (case l => first | k_is | rfl | decide +kernel)
      (case c => first | k_is | rfl | decide +kernel)
      (case k => first | k_is | rfl | decide +kernel))
    have D__law_claims := LW.ofK KX (B := fun K => LW.OwnDef K mg "_law_claims" LW.s__law_claims) (by
      refine' LW.own_mk KX G ?a ?l ?c ?k
      (case a => first | k_is | rfl | decide +kernel)
      (case l => first | k_is | rfl | decide +kernel)
      (case c => first | k_is | rfl | decide +kernel)
      (case k => first | k_is | rfl | decide +kernel))
    have D__law_just := LW.ofK KX (B := fun K => LW.OwnDef K mg "_law_just" LW.s__law_just) (by
      refine' LW.own_mk KX G ?a ?l ?c ?k
      (case a => first | k_is | rfl | decide +kernel)
      (case l => first | k_is | rfl | decide +kernel)
      (case c => first | k_is | rfl | decide +kernel)
      (case k => first | k_is | rfl | decide +kernel))
    have D__law_all := LW.ofK KX (B := fun K => LW.OwnDef K mg "_law_all" LW.s__law_all) (by
      refine' LW.own_mk KX G ?a ?l ?c ?k
      (case a => first | k_is | rfl | decide +kernel)
      (case l => first | k_is | rfl | decide +kernel)
      (case c => first | k_is | rfl | decide +kernel)
      (case k => first | k_is | rfl | decide +kernel))
    have D__law_near := LW.ofK KX (B := fun K => LW.OwnDef K mg "_law_near" LW.s__law_near) (by
      refine' LW.own_mk KX G ?a ?l ?c ?k
      (case a => first | k_is | rfl | decide +kernel)
      (case l => first | k_is | rfl | decide +kernel)
      (case c => first | k_is | rfl | decide +kernel)
      (case k => first | k_is | rfl | decide +kernel))
    have D__law_right := LW.ofK KX (B := fun K => LW.OwnDef K mg "_law_right" LW.s__law_right) (by
      refine' LW.own_mk KX G ?a ?l ?c ?k
      (case a => first | k_is | rfl | decide +kernel)
      (case l => first | k_is | rfl | decide +kernel)
      (case c => first | k_is | rfl | decide +kernel)
      (case k => first | k_is | rfl | decide +kernel))
    have D_law := LW.ofK KX (B := fun K => LW.OwnDef K mg "law" LW.s_law) (by
      refine' LW.own_mk KX G ?a ?l ?c ?k
      (case a => first | k_is | rfl | decide +kernel)
      (case l => first | k_is | rfl | decide +kernel)
      (case c => first | k_is | rfl | decide +kernel)
      (case k => first | k_is | rfl | decide +kernel))
    obtain ⟨c, T, RK⟩ := LW.ofK KX (B := fun K => ∃ c, LW.Tx K mg c ∧ LW.RuK K c) (by
      refine' ⟨_, ⟨⟨?pg, ?hd, ?po, ?sa⟩, ?nO, ?nH, ?nS, ?nU, ?nW, ?nX, PySem.W.mg_of KX G ?g, XH.1.drawn ("gcd", .fn "math.gcd") ?dr, XH.1.drawn ("lcm", .fn "math.lcm") ?dl, ?gB, ⟨_, PySem.W.mg_of KX G ?gD⟩, ⟨_, PySem.W.mg_of KX G ?gM⟩⟩, ⟨⟨_, _, L2.fun_mk ?l1 ?c1 ?k1, ⟨?m1, ?i1, ?k2⟩⟩, ⟨_, _, L2.fun_mk ?l3 ?c3 ?k3, ⟨?mk, ?in3, ?i3, ?kc⟩⟩, ⟨.type "type", _, _, _, L2.fun_mk ?l4 ?c4 ?k4, ⟨⟨?rd, ?ga⟩, ?at4, ⟨_, ?rc⟩, ?kp⟩⟩⟩⟩
      (case g => first | k_is | rfl | decide +kernel)
      (case pg => first | k_is | rfl | decide +kernel)
      (case hd => first | k_is | rfl | decide +kernel)
      (case po => first | k_is | rfl | decide +kernel)
      (case sa => first | k_is | rfl | decide +kernel)
      (case nO => first | k_is | rfl | decide +kernel)
      (case nH => first | k_is | rfl | decide +kernel)
      (case nS => first | k_is | rfl | decide +kernel)
      (case nU => first | k_is | rfl | decide +kernel)
      (case nW => first | k_is | rfl | decide +kernel)
      (case nX => first | k_is | rfl | decide +kernel)
      (case dr => exact List.Mem.head _)
      (case dl => exact List.Mem.tail _ (List.Mem.head _))
      (case gB => obtain ⟨v, e1, e2⟩ := XH.2.val _ (List.mem_singleton.mpr rfl); cases e2; exact ⟨_, e1⟩)
      (case gD => first | k_is | rfl | decide +kernel)
      (case gM => first | k_is | rfl | decide +kernel)
      (case m1 => first | k_is | rfl | decide +kernel)
      (case i1 => first | k_is | rfl | decide +kernel)
      (case k2 => first | k_is | rfl | decide +kernel)
      (case l1 => first | k_is | rfl | decide +kernel)
      (case c1 => first | k_is | rfl | decide +kernel)
      (case k1 => first | k_is | rfl | decide +kernel)
      (case in3 => first | k_is | rfl | decide +kernel)
      (case i3 => first | k_is | rfl | decide +kernel)
      (case mk => first | k_is | rfl | decide +kernel)
      (case kc => first | k_is | rfl | decide +kernel)
      (case l3 => first | k_is | rfl | decide +kernel)
      (case c3 => first | k_is | rfl | decide +kernel)
      (case k3 => first | k_is | rfl | decide +kernel)
      (case ga => first | k_is | rfl | decide +kernel)
      (case rd => first | k_is | rfl | decide +kernel)
      (case at4 => first | k_is | rfl | decide +kernel)
      (case rc => first | k_is | rfl | decide +kernel)
      (case kp => first | k_is | rfl | decide +kernel)
      (case l4 => first | k_is | rfl | decide +kernel)
      (case c4 => first | k_is | rfl | decide +kernel)
      (case k4 => first | k_is | rfl | decide +kernel))
    have CI : LW.ClsI _ c := (by
      have hc : mg "Rule" = some (.ref c) := T.g_Rule
      obtain ⟨c', hc', q⟩ := LW.ofK KX (B := fun K => ∃ c', mg "Rule" = some (.ref c') ∧ LW.ClsI K c') (by
        refine' ⟨_, PySem.W.mg_of KX G ?g, ⟨?ca, ?sp, ?tk, ?mr⟩⟩
        (case g => first | k_is | rfl | decide +kernel)
        (case ca => first | k_is | rfl | decide +kernel)
        (case sp => first | k_is | rfl | decide +kernel)
        (case tk => first | k_is | rfl | decide +kernel)
        (case mr => first | k_is | rfl | decide +kernel))
      have e := hc.symm.trans hc'
      cases e
      exact q)
    have WK : LW.WhK _ c := (by
      have hc : mg "Rule" = some (.ref c) := T.g_Rule
      obtain ⟨c', hc', q⟩ := LW.ofK KX (B := fun K => ∃ c', mg "Rule" = some (.ref c') ∧ LW.WhK K c') (by
        refine' ⟨_, PySem.W.mg_of KX G ?g, ⟨⟨_, _, L2.fun_mk ?l1 ?c1 ?k1, ⟨?m1, ?i1, ?k2⟩⟩⟩⟩
        (case g => first | k_is | rfl | decide +kernel)
        (case m1 => first | k_is | rfl | decide +kernel)
        (case i1 => first | k_is | rfl | decide +kernel)
        (case k2 => first | k_is | rfl | decide +kernel)
        (case l1 => first | k_is | rfl | decide +kernel)
        (case c1 => first | k_is | rfl | decide +kernel)
        (case k1 => first | k_is | rfl | decide +kernel))
      have e := hc.symm.trans hc'
      cases e
      exact q)
    have SK : LW.StK _ c := (by
      have hc : mg "Rule" = some (.ref c) := T.g_Rule
      obtain ⟨c', hc', q⟩ := LW.ofK KX (B := fun K => ∃ c', mg "Rule" = some (.ref c') ∧ LW.StK K c') (by
        refine' ⟨_, PySem.W.mg_of KX G ?g, ⟨⟨_, _, L2.fun_mk ?l1 ?c1 ?k1, ⟨?m1, ?i1, ?k2⟩⟩⟩⟩
        (case g => first | k_is | rfl | decide +kernel)
        (case m1 => first | k_is | rfl | decide +kernel)
        (case i1 => first | k_is | rfl | decide +kernel)
        (case k2 => first | k_is | rfl | decide +kernel)
        (case l1 => first | k_is | rfl | decide +kernel)
        (case c1 => first | k_is | rfl | decide +kernel)
        (case k1 => first | k_is | rfl | decide +kernel))
      have e := hc.symm.trans hc'
      cases e
      exact q)
    have TC : LW.TxC mg := (by
      refine' ⟨⟨_, PySem.W.mg_of KX G ?gC⟩⟩
      (case gC => first | k_is | rfl | decide +kernel))
    exact LW.finishL KX G hmg B T RK CI WK SK TC D_is_int D_is_count D_is_number D_as_pair D_lowest D_is_less D__int_text D__read_int D_is_digits D_number_text D_read_number D__is_offset D__plain_mark D__is_next_mark D__lowest_head D_common_bottom D_is_positive D_as_inverse D_in_integers D_check_rule D_check_claims D_check_division D_delays_of D_next_dues D_last_dues D_is_fair D__law_tank D__law_tap D__law_any D__law_low D__law_exact D__law_under D__law_written D__law_head D__law_spec D__law_mark D__law_text D__law_rule D__law_claim D__law_claims D__law_just D__law_all D__law_near D__law_right D_law
