import PyProof.Rows.All
import Wide.All
import OpenK.AllK
import Wide.FinOn
import HandS.ForMost
import HandS.Codes
import HandS.Defaults
import HandS.TupSets
import HandS.IsInst
import HandS.Wide
import HandS.TupLe
import PyProof.ReprRoads
import PyProof.ReprBulk
import PyProof.EqLayable
import HandS.Conv
import PySem.Challenge.RW_unnoted_k01_pieces_and_trees
set_option Elab.async false
set_option linter.all false
set_option maxRecDepth 100000
set_option maxHeartbeats 4000000
namespace Un
open PySem PySem.Spec PyProof.Rows L2
/-! ### powers of great ints -/
def CPowB (i j : Int) : Prop := 0 ≤ j ∧ (Builtin.Int.intBits i : Int) * j ≤ 2 ^ 27
theorem op_powB {X : Cx} : OpR X (binaryOp .Pow) (rI CPowB fun i j => .int (i ^ j.toNat)) :=
  opI fun _ _ _ _ _ _ _ hc q => pow_int hc.1 hc.2 q
/-! ### repr of data -/
structure ReprOk (d : PyData) : Prop where
  sh : d.showable = true
  nd : d.hasDict = false
  dp : d.depth ≤ 60
  ln : d.shown.length ≤ sizeLine
def rReprD (K : PySem.W.Frag) : List V → Hp → VK → Prop := fun vs H Q => ∃ (a : Addr) (d : PyData), vs = [.ref a] ∧ Dp K H (.ref a) d ∧ ReprOk d ∧ Q (.str d.shown) H
theorem call_reprD {X : Cx} (hg : X.A.guards = some []) (hu : X.A.units + 64 < cLine) : CallR X (.builtin "repr") (rReprD X.K) := by
  intro pins s σ H vs us Q I r h
  obtain ⟨a, d, rfl, hd, ⟨h1, h2, h3, h4⟩, q⟩ := h
  obtain ⟨as, rd⟩ := Dp.reads I d _ (.ref a) hd rfl
  have e : us = [.ref a] := Vals.ref1 r
  subst e
  refine repr_of_reads' rd h1 (fun z => ?_) hg (by omega) (fun _ _ z => z) (fun h' u tk hk => ?_) h4
  · rw [h2] at z
    cases z
  · refine ⟨.str d.shown, H, ?_, ⟨u, rfl⟩, q⟩
    exact I.call (ch := []) (Un.kept hk) (I.hok.kept hk) I.bare (fun _ z => nomatch z)
/-! ### calls by keywords alone -/
/-- a def by its name, called by keywords alone; g orders the values -/
structure KCal (P : Program) (w : World) (K : PySem.W.Frag) (mg : Str → Option Value) (base : Heap) (k : Nat) (x : Str) (sp : Sp) (ks : List Str) (gV : List V → List V → List V) : Prop where
  ex : ∃ (f : Addr) (fd : FuncData) (ps : List Str) (g : List Value → List Value → List Value), FnOk P w K mg base CX0 k f fd ps sp ∧ mg x = some (.ref f) ∧ PySem.W.keepIn K (.ref f) = true ∧ KBn K fd ps 0 ks g gV
def tCallK0 (m : Nat) (sp : Sp) (gV : List V → List V → List V) (tk : TA) : TE := fun σ H Q => tk σ H fun zs H2 => zs.length = m ∧ sp (gV [] zs) H2 Q E0
theorem pe_kc {X : Cx} {j k : Nat} {x : Str} {sp : Sp} {ks : List Str} {gV : List V → List V → List V} {p pos : Pos} {kws : List Keyword} {tk : TA} (c : KCal X.prog X.w X.K X.mg X.base k x sp ks gV) (hr : Room j X.A) (hk : k ≤ j) (hg : Gl X x) (hkw : PK X kws tk)
    (hall : (backToKw pos (keywordEach kws X.env)).all (·.1.isSome) = true := by rfl) (hks : (backToKw pos (keywordEach kws X.env)).filterMap (·.1) = ks := by rfl) (hdb : (x == ("__debug__" : Str)) = false := by decide)
    (hpl : ((backTo pos (starEach [] X.env)).any (·.1) || (backToKw pos (keywordEach kws X.env)).any (·.1.isNone)) = false := by rfl) : PE X (.Call (.Name x p) [] kws pos) (tCallK0 ks.length sp gV tk) := by
  obtain ⟨f, fd, ps, g, F, hm, kp, hb⟩ := c.ex
  refine ⟨fun pins s σ H Q I h => wpAny_Call_Name_kw (ld_glob I hg hm ?_ hdb)⟩
  refine PySem.W.callWith_KW0 (h₀ := X.base) I.ok.mod.kin kp hall (thn (hkw.run pos pins s σ H _ I h) ?_) hpl
  rintro ws s2 ⟨zs, H2, I2, rz, l2, q2⟩
  refine ⟨I2.kIn, ?_⟩
  rw [hks]
  exact run_fnN (us := []) (vs := []) F (hr.mono hk) hb pass0 I2 .nil rz rfl l2 q2
/-! ### defs that lean on there being no guard around -/
structure FnG (P : Program) (w : World) (K : PySem.W.Frag) (mg : Str → Option Value) (base : Heap) (k : Nat) (f : Addr) (fd : FuncData) (ps : List Str) (sp : Sp) : Prop where
  len : ∀ vs H Q E, sp vs H Q E → vs.length = ps.length
  run : ∀ (A : Around) (outer : List Env) (s : Shared) (H : Hp) (args : Args) (us : List Value) (vs : List V) (Q : VK), A.guards = some [] → Room k A →
    Env0 P w K mg base A outer s H → BindsTo s fd args (ps.zip us) → Vals vs us → sp vs H Q E0 → codeAny (model P w) A (.call (.ref f) args) (CR CX0 outer P w H s Q E0) s
section
variable {P : Program} {w : World} {K : PySem.W.Frag} {mg : Str → Option Value} {base : Heap} {x qual : Str} {st : Stmt} {f : Addr} {fd : FuncData}
theorem fnG_ok {N ps : List Str} {k : Nat} {sp : Sp} (F : Fun K x qual st f fd) (S : FnScope N ps (defScope st)) (len : ∀ vs H Q E, sp vs H Q E → vs.length = ps.length)
    (body : ∀ (cdv : Value) (A : Around) (outer : List Env) (s : Shared) (H : Hp) (vs : List V) (Q : VK), A.guards = some [] → Room k (A.deeper (envOfC qual (defScope st) s.heap.objs.size f cdv)) → sp vs H Q E0 →
      ∃ t, PSs (cxOf CX0 P w K mg base N qual (defScope st) f cdv A outer s H E0).nox (defBody st) t ∧ t { nx := fun _ H' => Q .non H', rt := Q } (start N vs) H) : FnG P w K mg base (k + 1) f fd ps sp := by
  obtain ⟨oc, od, kV, doc, pm, an, cdv, ct, osl, efd, lk, hcd⟩ := F.ex
  subst efd
  refine ⟨len, ?_⟩
  intro A outer s H args us vs Q hg hr e0 hb r hsp
  have hl := len vs H Q E0 hsp
  have same : ∀ b o, base.get? b = some o → s.heap.get? b = some o := fun b o e => (e0.bs b o e).1
  have inK : K.In s.heap := e0.mod.kin.keeps same
  have nolim : s.heap.NoLimit := e0.mod.nolimit.keeps same
  refine codeAny_call_function hr.depth (inK _ _ lk) rfl S.co S.gen rfl (PySem.W.codeRec_of inK hcd) (hb _ _ _ _ ?_)
  refine wpAny_newFunctionEnv_cells S.kind ?_ ?_
  · rintro ⟨n, v⟩ hy
    rcases S.par n (List.of_mem_zip hy).1 with q | q
    · exact Or.inl q
    · exact Or.inr ⟨q, PySem.W.cellsFrom_some _ _ _ (Or.inl q)⟩
  · intro env he s1 x1
    subst he
    refine ⟨nolim.keeps x1.toInCall.keep, codeAny_func ?_⟩
    obtain ⟨t, ht, hq⟩ := body cdv A outer s H vs Q hg (hr.deeper _) hsp
    have I0 := inv_start (CX := CX0) (P := P) (w := w) (K := K) (mg := mg) (base := base) (E := E0) (cd := cdv) S hr.hd e0 hl r x1
    refine wpAny_mono (ht.nox.run [] s1 (start N vs) H _ I0 hq) ?_ (fun e s' hs => hs)
    rintro fl s' hs
    cases fl with
    | ret u =>
      obtain ⟨v, σ', H', J, rv, q⟩ := hs
      exact ⟨v, H', J.os, J.bare, J.base, J.hok, rv, q⟩
    | next =>
      obtain ⟨σ', H', J, q⟩ := hs
      exact ⟨.non, H', J.os, J.bare, J.base, J.hok, rfl, q⟩
    | brk =>
      obtain ⟨_, _, _, q⟩ := hs
      exact q.elim
    | cont =>
      obtain ⟨_, _, _, q⟩ := hs
      exact q.elim
end
/-- .. by its name -/
structure CalG (P : Program) (w : World) (K : PySem.W.Frag) (mg : Str → Option Value) (base : Heap) (k : Nat) (x : Str) (sp : Sp) : Prop where
  ex : ∃ (f : Addr) (fd : FuncData) (ps : List Str), FnG P w K mg base k f fd ps sp ∧ mg x = some (.ref f) ∧ PySem.W.keepIn K (.ref f) = true ∧ Binds K fd ps []
theorem pe_cG {X : Cx} {j k : Nat} {x : Str} {sp : Sp} {p pos : Pos} {e : Expr} {es : List Expr} {t : TA} (hgd : X.A.guards = some []) (c : CalG X.prog X.w X.K X.mg X.base k x sp) (hr : Room j X.A) (hk : k ≤ j) (hg : Gl X x) (ha : PA X (e :: es) t)
    (hdb : (x == ("__debug__" : Str)) = false := by decide) (he : starEach (e :: es) X.env = (false, eval e X.env) :: starEach es X.env := by rfl) (hpl : (backTo pos (starEach es X.env)).any (·.1) = false := by rfl) :
    PE X (.Call (.Name x p) (e :: es) [] pos) (tCall sp [] E0 t) := by
  obtain ⟨f, fd, ps, F, hm, kp, hb⟩ := c.ex
  refine ⟨fun pins s σ H Q I h => wpAny_Call_Name_kw (ld_glob I hg hm ?_ hdb)⟩
  refine PySem.W.callWith_K (h₀ := X.base) I.ok.mod.kin kp (thn (ha.run pos pins s σ H _ I h) ?_) he hpl
  rintro us s1 ⟨vs, H1, I1, r, q⟩
  refine ⟨I1.kIn, ?_⟩
  rw [List.append_nil] at q
  have hl : (us ++ []).length = ps.length := by
    rw [List.append_nil, ← r.length]
    exact F.len _ _ _ _ q
  have hb1 := hb s1 us I1.kIn hl
  rw [List.append_nil] at hb1
  refine wpAny_call (codeAny_mono (F.run X.A X.stack s1 H1 ⟨us, []⟩ us vs Q hgd (hr.mono hk) I1.env0 hb1 r q) ?_)
  intro rr s' hq
  cases rr with
  | error z => exact hq.elim
  | ok fl =>
    cases fl with
    | ret u => exact I1.after hq
    | next => exact hq.elim
    | brk => exact hq.elim
    | cont => exact hq.elim
end Un

set_option maxRecDepth 100000
set_option maxHeartbeats 4000000
namespace Un
open PySem PySem.Spec PyProof.Rows L2
/-! ### data that is shown and compared -/
structure Fine (D m : Nat) (d : PyData) : Prop where
  sh : d.showable = true
  nd : d.hasDict = false
  ly : d.canLay0 = true
  lv : d.leavesShort 13 = true
  dp : d.depth ≤ D
  bk : d.bulk ≤ m
theorem Fine.mono {D m D' m' : Nat} {d : PyData} (h : Fine D m d) (h1 : D ≤ D') (h2 : m ≤ m') : Fine D' m' d :=
  ⟨h.sh, h.nd, h.ly, h.lv, Nat.le_trans h.dp h1, Nat.le_trans h.bk h2⟩
theorem Fine.non : Fine 0 0 .none := ⟨rfl, rfl, rfl, rfl, Nat.le_refl _, Nat.le_refl _⟩
theorem Fine.bool (b : Bool) : Fine 0 0 (.bool b) := ⟨rfl, rfl, rfl, rfl, Nat.le_refl _, Nat.le_refl _⟩
theorem log_small {n : Nat} (h : n < 10 ^ 12) : n.log2 < 1920 := by
  by_cases e : n = 0
  · subst e
    decide
  · refine (Nat.log2_lt e).mpr (Nat.lt_trans h ?_)
    exact Nat.lt_of_lt_of_le (by decide : 10 ^ 12 < 2 ^ 40) (Nat.pow_le_pow_right (by decide) (by decide))
theorem Fine.int {i : Int} (h : i.natAbs < 10 ^ 12) : Fine 0 0 (.int i) := by
  refine ⟨?_, rfl, rfl, ?_, Nat.le_refl _, Nat.le_refl _⟩
  · simp only [PyData.showable, decide_eq_true_eq]
    exact log_small h
  · simp only [PyData.leavesShort, decide_eq_true_eq]
    exact PyData.shown_int_le h
theorem Fine.all {D m : Nat} : ∀ {ds : List PyData}, (∀ d ∈ ds, Fine D m d) →
    PyData.showableAll ds = true ∧ PyData.hasDictAll ds = false ∧ PyData.canLayAll0 ds = true ∧ PyData.leavesShortAll 13 ds = true ∧ PyData.depthAll ds ≤ D ∧ PyData.bulkAll ds ≤ ds.length * (m + 1)
  | [], _ => ⟨rfl, rfl, rfl, rfl, Nat.zero_le _, Nat.zero_le _⟩
  | d :: ds, h => by
    obtain ⟨a1, a2, a3, a4, a5, a6⟩ := Fine.all fun e he => h e (List.mem_cons_of_mem _ he)
    have f := h d List.mem_cons_self
    refine ⟨?_, ?_, ?_, ?_, ?_, ?_⟩
    · simp only [PyData.showableAll, f.sh, a1, Bool.and_self]
    · simp only [PyData.hasDictAll, f.nd, a2, Bool.or_self]
    · simp only [PyData.canLayAll0, f.ly, a3, Bool.and_self]
    · simp only [PyData.leavesShortAll, f.lv, a4, Bool.and_self]
    · simp only [PyData.depthAll]
      exact Nat.max_le.mpr ⟨f.dp, a5⟩
    · simp only [PyData.bulkAll, List.length_cons]
      have := f.bk
      rw [Nat.add_mul]
      omega
theorem Fine.list {D m L : Nat} {ds : List PyData} (h : ∀ d ∈ ds, Fine D m d) (hl : ds.length ≤ L) : Fine (D + 1) (L * (m + 1)) (.list ds) := by
  obtain ⟨a1, a2, a3, a4, a5, a6⟩ := Fine.all h
  refine ⟨?_, ?_, ?_, ?_, ?_, ?_⟩
  · simp only [PyData.showable, a1]
  · simp only [PyData.hasDict, a2]
  · simp only [PyData.canLay0, a3]
  · simp only [PyData.leavesShort, a4]
  · simp only [PyData.depth]
    omega
  · simp only [PyData.bulk]
    exact Nat.le_trans a6 (Nat.mul_le_mul_right _ hl)
theorem Fine.tuple {D m L : Nat} {ds : List PyData} (h : ∀ d ∈ ds, Fine D m d) (hl : ds.length ≤ L) : Fine (D + 1) (L * (m + 1)) (.tuple ds) := by
  obtain ⟨a1, a2, a3, a4, a5, a6⟩ := Fine.all h
  refine ⟨?_, ?_, ?_, ?_, ?_, ?_⟩
  · simp only [PyData.showable, a1]
  · simp only [PyData.hasDict, a2]
  · simp only [PyData.canLay0, a3]
  · simp only [PyData.leavesShort, a4]
  · simp only [PyData.depth]
    omega
  · simp only [PyData.bulk]
    exact Nat.le_trans a6 (Nat.mul_le_mul_right _ hl)
theorem Fine.len {D m : Nat} {d : PyData} (h : Fine D m d) (hm : m ≤ 2 ^ 20) : d.shown.length ≤ sizeLine :=
  PyData.shown_fits_bulk (B := 13) (by decide) (by decide) h.lv (Nat.le_trans h.bk hm)
theorem rOk {D m : Nat} {d : PyData} (h : Fine D m d) (hD : D ≤ 60 := by decide) (hm : m ≤ 2 ^ 20 := by decide) : ReprOk d := ⟨h.sh, h.nd, Nat.le_trans h.dp hD, h.len hm⟩
theorem Fine.shaped {D m : Nat} {d : PyData} (h : Fine D m d) (hD : D ≤ 60) : SeqAt.shaped d = true := by
  unfold SeqAt.shaped
  rw [h.ly, Bool.true_and, decide_eq_true_eq]
  exact Nat.le_trans h.dp (Nat.le_trans hD (by decide))
/-! ### the data of ints, pairs, lists of them -/
def dI (n : Int) : PyData := .int n
def dL (ns : List Int) : PyData := .list (ns.map .int)
def dLL (xss : List (List Int)) : PyData := .list (xss.map dL)
def dP (e : Int × Int) : PyData := .tuple [.int e.1, .int e.2]
def dW (es : List (Int × Int)) : PyData := .list (es.map dP)
def Sml (ns : List Int) : Prop := ∀ n ∈ ns, n.natAbs < 10 ^ 12
theorem fine_L {ns : List Int} (h : Sml ns) {L : Nat} (hl : ns.length ≤ L) : Fine 1 L (dL ns) := by
  have f := Fine.list (D := 0) (m := 0) (L := L) (ds := ns.map PyData.int) (fun d hd => by
    obtain ⟨n, hn, rfl⟩ := List.mem_map.mp hd
    exact Fine.int (h n hn)) (by rw [List.length_map]; exact hl)
  exact f.mono (Nat.le_refl _) (by omega)
theorem fine_LL {xss : List (List Int)} {L M : Nat} (h : ∀ xs ∈ xss, Sml xs ∧ xs.length ≤ L) (hl : xss.length ≤ M) : Fine 2 (M * (L + 1)) (dLL xss) :=
  Fine.list (fun d hd => by
    obtain ⟨xs, hx, rfl⟩ := List.mem_map.mp hd
    exact fine_L (h xs hx).1 (h xs hx).2) (by rw [List.length_map]; exact hl)
theorem fine_P {e : Int × Int} (h1 : e.1.natAbs < 10 ^ 12) (h2 : e.2.natAbs < 10 ^ 12) : Fine 1 2 (dP e) :=
  (Fine.tuple (D := 0) (m := 0) (L := 2) (ds := [.int e.1, .int e.2]) (fun d hd => by
    rcases List.mem_cons.mp hd with rfl | hd
    · exact Fine.int h1
    · rw [List.mem_singleton.mp hd]
      exact Fine.int h2) (Nat.le_refl _)).mono (Nat.le_refl _) (by omega)
theorem fine_W {es : List (Int × Int)} {L : Nat} (h : ∀ e ∈ es, e.1.natAbs < 10 ^ 12 ∧ e.2.natAbs < 10 ^ 12) (hl : es.length ≤ L) : Fine 2 (L * 3) (dW es) :=
  Fine.list (fun d hd => by
    obtain ⟨e, he, rfl⟩ := List.mem_map.mp hd
    exact fine_P (h e he).1 (h e he).2) (by rw [List.length_map]; exact hl)
/-! ### heaps -/
theorem same_upd {H : Hp} {p : Addr} {o : HO} (h : H p = none) : Same H (upd H p o) := fun b x e => by
  rw [upd_ne (ne_of_none e h)]
  exact e
theorem Same.mut {H H' : Hp} {p : Addr} {o : HO} (e : Same H H') (h : H p = none) : Same H (upd H' p o) := fun b x ha => by
  rw [upd_ne (ne_of_none ha h)]
  exact e b x ha
theorem Same.tup {K : PySem.W.Frag} {H H' : Hp} {a : Addr} {xs : List V} (e : Same H H') (h : SqT K H a xs) : SqT K H' a xs := by
  rcases h with (h | ⟨o, h⟩) | h
  · exact .inl (.inl (e _ _ h))
  · exact .inl (.inr ⟨o, e _ _ h⟩)
  · exact .inr h
theorem sqL_of {K : PySem.W.Frag} {H : Hp} {a : Addr} {xs : List V} (h : H a = some (.lst xs)) : SqL K H a xs := .inl (.inl h)
theorem sqT_of {K : PySem.W.Frag} {H : Hp} {a : Addr} {xs : List V} (h : H a = some (.tup xs)) : SqT K H a xs := .inl (.inl h)
/-- all that was tracked is as it was, but for the addresses in S -/
def SameBut (S : Addr → Prop) (H H' : Hp) : Prop := ∀ b o, ¬ S b → H b = some o → H' b = some o
theorem SameBut.refl (S : Addr → Prop) (H : Hp) : SameBut S H H := fun _ _ _ h => h
theorem SameBut.trans {S : Addr → Prop} {H H1 H2 : Hp} (a : SameBut S H H1) (b : SameBut S H1 H2) : SameBut S H H2 := fun c o n h => b c o n (a c o n h)
theorem Same.but {S : Addr → Prop} {H H' : Hp} (e : Same H H') : SameBut S H H' := fun b o _ h => e b o h
theorem SameBut.mut {S : Addr → Prop} {H H' : Hp} {p : Addr} {o : HO} (e : SameBut S H H') (h : S p) : SameBut S H (upd H' p o) := fun b x n ha => by
  have nb : b ≠ p := fun z => n (by rw [z]; exact h)
  rw [upd_ne nb]
  exact e b x n ha
theorem SameBut.new {S : Addr → Prop} {H H' : Hp} {p : Addr} {o : HO} (e : SameBut S H H') (h : H' p = none) : SameBut S H (upd H' p o) := fun b x n ha => by
  rw [upd_ne (ne_of_none (e b x n ha) h)]
  exact e b x n ha
theorem SameBut.all {S : Addr → Prop} {H H' : Hp} (e : SameBut S H H') (n : ∀ b, S b → H b = none) : Same H H' := fun b o h => e b o (fun z => by
  rw [n b z] at h
  cases h) h
/-! ### a web or log at a: a list of tuples of two ints -/
def Prs (H : Hp) (ts : List Addr) (es : List (Int × Int)) : Prop := Paired (fun t (e : Int × Int) => H t = some (.tup [.int e.1, .int e.2])) ts es
def WebAt (K : PySem.W.Frag) (H : Hp) (a : Addr) (es : List (Int × Int)) : Prop := ∃ ts : List Addr, SqL K H a (ts.map V.ref) ∧ Prs H ts es
theorem Prs.keep {H H' : Hp} (k : ∀ t xs, H t = some (.tup xs) → H' t = some (.tup xs)) : ∀ {ts : List Addr} {es : List (Int × Int)}, Prs H ts es → Prs H' ts es
  | _, _, .nil => .nil
  | _, _, .cons r t => .cons (k _ _ r) (Prs.keep k t)
theorem Prs.length {H : Hp} {ts : List Addr} {es : List (Int × Int)} (h : Prs H ts es) : ts.length = es.length := Paired.length h
theorem Prs.get {H : Hp} : ∀ {ts : List Addr} {es : List (Int × Int)} {i : Nat} {t : Addr}, Prs H ts es → ts[i]? = some t → ∃ e, es[i]? = some e ∧ H t = some (.tup [.int e.1, .int e.2])
  | _, _, _, _, .nil, h => by simp at h
  | _, _, 0, _, .cons r _, h => by
    simp at h
    subst h
    exact ⟨_, rfl, r⟩
  | _, _, i + 1, t, .cons _ q, h => by
    obtain ⟨e, h1, h2⟩ := Prs.get (i := i) q (by simpa using h)
    exact ⟨e, by simpa using h1, h2⟩
theorem Prs.append {H : Hp} : ∀ {ts us : List Addr} {es fs : List (Int × Int)}, Prs H ts es → Prs H us fs → Prs H (ts ++ us) (es ++ fs)
  | _, _, _, _, .nil, q => q
  | _, _, _, _, .cons r p, q => .cons r (Prs.append p q)
theorem WebAt.same {K : PySem.W.Frag} {H H' : Hp} {a : Addr} {es : List (Int × Int)} (h : WebAt K H a es) (s : Same H H') : WebAt K H' a es := by
  obtain ⟨ts, h1, h2⟩ := h
  exact ⟨ts, s.seq h1, h2.keep fun t xs e => s t _ e⟩
theorem dp_ints {K : PySem.W.Frag} {H : Hp} : ∀ ns : List Int, DpAll K H (ns.map V.int) (ns.map PyData.int)
  | [] => .nil
  | n :: r => .cons (.int n) (dp_ints r)
theorem dp_L {K : PySem.W.Frag} {H : Hp} {a : Addr} {ns : List Int} (h : SqL K H a (ns.map V.int)) : Dp K H (.ref a) (dL ns) := .lst h (dp_ints ns)
theorem dp_prs {K : PySem.W.Frag} {H : Hp} : ∀ {ts : List Addr} {es : List (Int × Int)}, Prs H ts es → DpAll K H (ts.map V.ref) (es.map dP)
  | _, _, .nil => .nil
  | _, _, .cons r t => .cons (.tup (sqT_of r) (.cons (.int _) (.cons (.int _) .nil))) (dp_prs t)
theorem WebAt.dp {K : PySem.W.Frag} {H : Hp} {a : Addr} {es : List (Int × Int)} (h : WebAt K H a es) : Dp K H (.ref a) (dW es) := by
  obtain ⟨ts, h1, h2⟩ := h
  exact .lst h1 (dp_prs h2)
/-! ### a list of lists of ints at p -/
def Rws (H : Hp) (as : List Addr) (xss : List (List Int)) : Prop := Paired (fun b (xs : List Int) => H b = some (.lst (xs.map V.int))) as xss
def LLAt (H : Hp) (p : Addr) (as : List Addr) (xss : List (List Int)) : Prop := H p = some (.lst (as.map V.ref)) ∧ Rws H as xss
theorem Rws.keep {H H' : Hp} : ∀ {as : List Addr} {xss : List (List Int)}, (∀ b ∈ as, ∀ o, H b = some o → H' b = some o) → Rws H as xss → Rws H' as xss
  | _, _, _, .nil => .nil
  | _, _, k, .cons r t => .cons (k _ List.mem_cons_self _ r) (Rws.keep (fun b hb => k b (List.mem_cons_of_mem _ hb)) t)
theorem Rws.length {H : Hp} {as : List Addr} {xss : List (List Int)} (h : Rws H as xss) : as.length = xss.length := Paired.length h
theorem Rws.get {H : Hp} : ∀ {as : List Addr} {xss : List (List Int)} {i : Nat} {b : Addr}, Rws H as xss → as[i]? = some b → ∃ xs, xss[i]? = some xs ∧ H b = some (.lst (xs.map V.int))
  | _, _, _, _, .nil, h => by simp at h
  | _, _, 0, _, .cons r _, h => by
    simp at h
    subst h
    exact ⟨_, rfl, r⟩
  | _, _, i + 1, t, .cons _ q, h => by
    obtain ⟨e, h1, h2⟩ := Rws.get (i := i) q (by simpa using h)
    exact ⟨e, by simpa using h1, h2⟩
theorem Rws.mem {H : Hp} {as : List Addr} {xss : List (List Int)} (h : Rws H as xss) {b : Addr} (hb : b ∈ as) : ∃ xs, xs ∈ xss ∧ H b = some (.lst (xs.map V.int)) := by
  obtain ⟨i, hi⟩ := List.getElem?_of_mem hb
  obtain ⟨xs, h1, h2⟩ := h.get hi
  exact ⟨xs, List.mem_of_getElem? h1, h2⟩
theorem Rws.append {H : Hp} : ∀ {ts us : List Addr} {es fs : List (List Int)}, Rws H ts es → Rws H us fs → Rws H (ts ++ us) (es ++ fs)
  | _, _, _, _, .nil, q => q
  | _, _, _, _, .cons r p, q => .cons r (Rws.append p q)
theorem dp_rws {K : PySem.W.Frag} {H : Hp} : ∀ {as : List Addr} {xss : List (List Int)}, Rws H as xss → DpAll K H (as.map V.ref) (xss.map dL)
  | _, _, .nil => .nil
  | _, _, .cons r t => .cons (dp_L (sqL_of r)) (dp_rws t)
theorem LLAt.dp {K : PySem.W.Frag} {H : Hp} {p : Addr} {as : List Addr} {xss : List (List Int)} (h : LLAt H p as xss) : Dp K H (.ref p) (dLL xss) := .lst (sqL_of h.1) (dp_rws h.2)
theorem LLAt.same {H H' : Hp} {p : Addr} {as : List Addr} {xss : List (List Int)} (h : LLAt H p as xss) (s : Same H H') : LLAt H' p as xss := ⟨s _ _ h.1, h.2.keep fun b _ o e => s b o e⟩
theorem LLAt.but {S : Addr → Prop} {H H' : Hp} {p : Addr} {as : List Addr} {xss : List (List Int)} (h : LLAt H p as xss) (s : SameBut S H H') (hp : ¬ S p) (ha : ∀ b ∈ as, ¬ S b) : LLAt H' p as xss :=
  ⟨s _ _ hp h.1, h.2.keep fun b hb o e => s b o (ha b hb) e⟩
/-! ### the end of the law -/
theorem walk_ofG {l : PySem.W.OpenLaw} {n k : Nat} {q : Program} {loose : List Str} {XP : (Str → Option Value) → Heap → Prop} {YP : World → Heap → Prop} {d : DefRec} {K : Params → PySem.W.Frag} {sp : PySem.W.Frag → Sp} {x : Str}
    (hn : l.most = some n) (hn2 : n ≤ sizeLine) (hdf : d.params.defaults = []) (hr : Room k callerA) (hY : ∀ (w : World) (h : Heap), YP w h → (K w.params).In h)
    (F : ∀ (w : World) (mg : Str → Option Value) (fa : Addr) (h : Heap), (K w.params).In h → h.Ns mainGlobals mg → mg d.name = some (.ref fa) → ∃ fd : FuncData, (∀ (s : Shared) (u : Value), BindsTo s fd ⟨[u], []⟩ [(x, u)]) ∧
      ∀ base : Heap, (K w.params).In base → base.Ns mainGlobals mg → FnG l.prog w (K w.params) mg base k fa fd [x] (sp (K w.params)))
    (hsp : ∀ (K : PySem.W.Frag) (H : Hp) (a : Addr) (ns : List Int), ns.length ≤ n → SqL K H a (ns.map V.int) → sp K [.ref a] H (fun v _ => v = .bl true) E0) :
    PySem.W.WalkO q loose XP YP l.row.toRowW d [] (fun f vs => PySem.call f vs) := by
  refine Att.attach_call hn hdf ?_
  intro w s0 s1 mg mb fa o pm cd doc a vs ns G Y ho hd hcd hmg hobj hints hlen hgens
  have inK := hY w _ Y
  obtain ⟨fd, hbind, hF⟩ := F w mg fa _ inK G.T.g hmg
  have hlen2 : ns.length ≤ sizeLine := Nat.le_trans hlen hn2
  have rv := vals_ints hints
  -- what an abstract heap must give
  have main : ∀ H : Hp, SqL (K w.params) H a (ns.map V.int) → HOk l.prog w H s1.heap → (∀ b, H b = none ∨ (b = a ∧ (K w.params).lookup a = none ∧ ∃ u, H b = some (.frz { cls := .type "list", data := .seq vs.toArray } u))) →
      codeAny (model l.prog w) callerA (.call (.ref fa) ⟨[.ref a], []⟩) (fun r s' => r = .ok (.ret (.bool true)) ∧ OldK s1.heap s'.heap ∧ s'.os = s1.os ∧ AllBare s'.gens) s1 := by
    intro H hS hok hH
    have dict0 : ∀ {b : Addr} {ob : Obj} {es : Array DictEntry} {ep : Nat}, s1.heap.get? b = some ob → ob.data = .dict es ep → H b = none := by
      intro b ob es ep e1 e2
      rcases hH b with z | ⟨rfl, _⟩
      · exact z
      · rw [hobj] at e1
        cases e1
        cases e2
    have ns0 : ∀ {b : Addr} {m : Str → Option Value}, s1.heap.Ns b m → (hidT s1.heap H).Ns b m := by
      rintro b m ⟨ob, es, ep, e1, e2, r⟩
      exact ⟨ob, es, ep, hidT_get e1 (dict0 e1 e2), e2, r⟩
    have k0 : (K w.params).In (hidT s1.heap H) := by
      intro b ob e
      refine hidT_get (inK b ob e) ?_
      rcases hH b with z | ⟨rfl, z, _⟩
      · exact z
      · rw [z] at e
        cases e
    obtain ⟨mc, l1, l2⟩ := G.T.nolimit
    have env0 : Env0 l.prog w (K w.params) mg (hidT s1.heap H) callerA [] s1 H :=
      ⟨rfl, ⟨k0, ns0 G.T.g, ⟨mb, ns0 G.T.b, G.T.builtins⟩, ⟨mc, ns0 l1, l2⟩⟩, fun b ob e => of_hidT e, Nat.le_of_eq (hidT_size _ _), trivial, fun b hb => (List.not_mem_nil hb).elim, hok, .of_eq hgens⟩
    have run := (hF _ k0 (ns0 G.T.g)).run callerA [] s1 H ⟨[.ref a], []⟩ [.ref a] [.ref a] (fun v _ => v = .bl true) rfl hr env0 (hbind s1 (.ref a)) (.cons rfl .nil) (hsp _ H a ns hlen hS)
    refine codeAny_mono run ?_
    intro r s' h
    cases r with
    | error e => exact h.elim
    | ok fl =>
      cases fl with
      | next => exact h.elim
      | brk => exact h.elim
      | cont => exact h.elim
      | ret u =>
        obtain ⟨v, H', os, bare, un, hok', rr, rfl⟩ := h
        have eu : u = Value.bool true := rr
        subst eu
        refine ⟨rfl, OldK.of_keep ?_, os, bare⟩
        intro b ob e
        rcases hH b with z | ⟨rfl, _, u, z⟩
        · exact un.keep b ob e z (fun t => (List.not_mem_nil t).elim) (fun t => (List.not_mem_nil t).elim)
        · have e2 := (hok' b _ (un.frzs b _ u z)).1
          have e1 := (hok b _ z).1
          rw [e] at e1
          cases e1
          exact e2
  cases hk : (K w.params).lookup a with
  | some ob =>
    have e := inK a ob hk
    rw [hobj] at e
    cases e
    refine main (fun _ => none) ?_ ?_ fun _ => .inl rfl
    · exact .inr ⟨_, vs.toArray, _, hk, rfl, rfl, rfl, by rw [List.size_toArray, hints.length]; exact hlen2, by simpa using rv⟩
    · intro b u z
      cases z
  | none =>
    refine main (fun b => if b = a then some (.frz { cls := .type "list", data := .seq vs.toArray } (.lst (ns.map V.int))) else none) ?_ ?_ ?_
    · exact .inl (.inr ⟨_, if_pos rfl⟩)
    · intro b u z
      have z' : (if b = a then some (HO.frz { cls := .type "list", data := .seq vs.toArray } (.lst (ns.map V.int))) else none) = some u := z
      split at z'
      · rename_i eb
        cases z'
        subst eb
        exact ⟨hobj, by rw [List.length_map]; exact hlen2, vs, _, rv, hobj⟩
      · cases z'
    · intro b
      by_cases eb : b = a
      · exact .inr ⟨eb, hk, _, if_pos eb⟩
      · exact .inl (if_neg eb)
end Un

set_option maxRecDepth 100000
set_option maxHeartbeats 4000000
namespace Un
open PySem PySem.Spec PyProof.Rows L2
/-- what len asks, by the written part -/
abbrev rLenK (K : PySem.W.Frag) : List V → Hp → VK → Prop := fun xs H Q => ∃ p ys, xs = [.ref p] ∧ (SqL K H p ys ∨ SqT K H p ys) ∧ Q (.int ys.length) H
/-! ### for i, x in enumerate(xs) -/
theorem for_enum {K : PySem.W.Frag} {a : Addr} {xs : List V} {g : TG} {tb : TS} {D : Ends} {σ : L2.St} {H : Hp} (Pv : Nat → L2.St → Hp → Prop) (h0 : Pv 0 σ H) (hl : ∀ i σ H, i ≤ xs.length → Pv i σ H → SqL K H a xs)
    (hs : ∀ i x T σ H, xs[i]? = some x → Pv i σ H → H T = none → g (.ref T) σ (upd H T (.tup [.int (i : Nat), x])) fun σ2 H2 => tb { D with nx := Pv (i + 1), ct := Pv (i + 1), bk := D.nx } σ2 H2)
    (hd : ∀ σ H, Pv xs.length σ H → D.nx σ H) : tFor (fun _ H R => R (Ite K a) H) g tb D σ H := by
  refine ⟨fun i m σ H => i + m = xs.length ∧ Pv i σ H, ⟨xs.length, Nat.zero_add _, h0⟩, ?_⟩
  rintro i m σ H ⟨em, p⟩
  have q := hl i σ H (by omega) p
  by_cases hi : i < xs.length
  · have e := List.getElem?_eq_getElem hi
    refine .inr ⟨⟨xs, _, q, e⟩, Pv (i + 1), fun σ' H' p' => ⟨m - 1, by omega, by omega, p'⟩, ?_⟩
    rintro v H' ⟨T, x, rfl, nT, rfl, f⟩
    exact hs i x T σ H (f xs q) p nT
  · have ei : i = xs.length := by omega
    subst ei
    exact .inl ⟨⟨xs, q, Nat.le_refl _⟩, hd σ H p⟩
theorem SameBut.mutN {S : Addr → Prop} {H H' : Hp} {p : Addr} {o : HO} (e : SameBut S H H') (h : H p = none) : SameBut S H (upd H' p o) := fun b x n ha => by
  rw [upd_ne (ne_of_none ha h)]
  exact e b x n ha
theorem SameBut.freshN {S : Addr → Prop} {H H' : Hp} {p : Addr} (e : SameBut S H H') (hS : ∀ b, S b → H' b ≠ none) (h : H' p = none) : H p = none := by
  cases q : H p with
  | none => rfl
  | some o =>
    by_cases z : S p
    · exact absurd h (hS p z)
    · rw [e p o z q] at h
      cases h
theorem Prs.upd {H : Hp} {ts : List Addr} {es : List (Int × Int)} {p : Addr} {o : HO} (h : Prs H ts es) (hp : ∀ xs, H p ≠ some (.tup xs)) : Prs (upd H p o) ts es :=
  h.keep fun t xs e => by
    have n : t ≠ p := fun z => hp xs (z ▸ e)
    rw [upd_ne n]
    exact e
theorem Prs.snoc {H : Hp} {ts : List Addr} {es : List (Int × Int)} {t : Addr} {e : Int × Int} (h : Prs H ts es) (ht : H t = some (.tup [.int e.1, .int e.2])) : Prs H (ts ++ [t]) (es ++ [e]) := h.append (.cons ht .nil)
theorem map_snoc {α β : Type} (f : α → β) (l : List α) (x : α) : (l ++ [x]).map f = l.map f ++ [f x] := by rw [List.map_append] <;> rfl
/-! ### tuples of two ints in their order -/
theorem le_pair (u v p q : Int) : Ob.lexAt (fun j => decide (([u, v] : List Int).getD j 0 = [p, q].getD j 0)) (fun j => decide (([u, v] : List Int).getD j 0 ≤ [p, q].getD j 0)) (decide (([u, v] : List Int).length ≤ [p, q].length)) 0
    (min ([u, v] : List Int).length [p, q].length) = decide (u < p ∨ (u = p ∧ v ≤ q)) := by
  have e : min ([u, v] : List Int).length [p, q].length = 2 := rfl
  rw [e]
  show (if decide (u = p) = true then (if decide (v = q) = true then decide (2 ≤ 2) else decide (v ≤ q)) else decide (u ≤ p)) = _
  by_cases h1 : u = p
  · subst h1
    rw [if_pos (by simp)]
    by_cases h2 : v = q
    · subst h2
      simp
    · rw [if_neg (by simp [h2])]
      simp
  · rw [if_neg (by simp [h1])]
    simp only [decide_eq_decide]
    omega
def Lt2 (a b : Int × Int) : Prop := a.1 < b.1 ∨ (a.1 = b.1 ∧ a.2 < b.2)
def Asc (es : List (Int × Int)) : Prop := es.Pairwise Lt2
def Inb (n : Int) (es : List (Int × Int)) : Prop := ∀ e ∈ es, 1 ≤ e.1 ∧ e.1 < e.2 ∧ e.2 ≤ n
theorem Asc.at {es : List (Int × Int)} (h : Asc es) {i j : Nat} {a b : Int × Int} (hij : i < j) (ha : es[i]? = some a) (hb : es[j]? = some b) : Lt2 a b := by
  obtain ⟨h1, rfl⟩ := List.getElem?_eq_some_iff.mp ha
  obtain ⟨h2, rfl⟩ := List.getElem?_eq_some_iff.mp hb
  exact List.pairwise_iff_getElem.mp h i j h1 h2 hij
theorem yes {σ : L2.St} {H : Hp} {A : Bool → Hp → Prop} (h : A true H) : tYes σ H A := h
/-- two ways that go on alike -/
theorem if_via {c : Prop} [Decidable c] {A B : VK → Prop} {Q : VK} (G : V → Hp → Prop) (key : ∀ v H', G v H' → Q v H') (hA : c → (∀ v H', G v H' → Q v H') → A Q) (hB : ¬ c → (∀ v H', G v H' → Q v H') → B Q) : if c then A Q else B Q := by
  by_cases h : c
  · rw [if_pos h]
    exact hA h key
  · rw [if_neg h]
    exact hB h key
/-- x and y as a value whose answer is known -/
theorem and_via {c : Bool} {A : VK → Prop} {Q : VK} {H : Hp} (fl : Bool) (key : Q (.bl fl) H) (hF : c = false → fl = false) (hA : c = true → Q (.bl fl) H → A Q) : if c = true then A Q else Q (.bl false) H := by
  cases c with
  | true => exact iteT (hA rfl key)
  | false =>
    rw [hF rfl] at key
    exact iteF key
theorem qT {p : Prop} [Decidable p] (h : p) : V.bl (decide p) = V.bl true := congrArg V.bl (decide_eq_true h)
theorem qF {p : Prop} [Decidable p] (h : ¬ p) : V.bl (decide p) = V.bl false := congrArg V.bl (decide_eq_false h)
end Un

set_option maxRecDepth 100000
set_option maxHeartbeats 4000000
namespace Un
open PySem PySem.Spec PyProof.Rows L2
/-! ### a def as it stands behind the top -/
def DefIn (K : PySem.W.Frag) (x : PySem.Str) (st : Stmt) : Prop := ∃ (f : Addr) (oc : Value) (od an : Option Addr) (kV doc pm cdv ct : Value) (osl : Array (Option Value)),
  PySem.W.nsIn K mainGlobals x = some (some (.ref f)) ∧ K.lookup f = some ⟨oc, od, .func (PySem.W.fnOf x x (defArgs st) (defBody st) (defScope st) .none kV doc pm an cdv ct), osl⟩ ∧ PySem.W.codeIn K cdv x = true ∧ PySem.W.keepIn K (.ref f) = true
theorem defIn_mk {K : PySem.W.Frag} {x : PySem.Str} {st : Stmt} {f : Addr} {oc : Value} {od an : Option Addr} {kV doc pm cdv ct : Value} {osl : Array (Option Value)} (a : PySem.W.nsIn K mainGlobals x = some (some (.ref f)))
    (l : K.lookup f = some ⟨oc, od, .func (PySem.W.fnOf x x (defArgs st) (defBody st) (defScope st) .none kV doc pm an cdv ct), osl⟩) (c : PySem.W.codeIn K cdv x = true) (k : PySem.W.keepIn K (.ref f) = true) : DefIn K x st := ⟨f, oc, od, an, kV, doc, pm, cdv, ct, osl, a, l, c, k⟩
theorem DefIn.fn {K : PySem.W.Frag} {x : PySem.Str} {st : Stmt} {h : Heap} {mg : PySem.Str → Option Value} (D : DefIn K x st) (X : K.In h) (G : h.Ns mainGlobals mg) : ∃ (f : Addr) (fd : FuncData), Fun K x x st f fd ∧ mg x = some (.ref f) := by
  obtain ⟨f, oc, od, an, kV, doc, pm, cdv, ct, osl, a, l, c, k⟩ := D
  exact ⟨f, _, fun_mk (st := st) l c k, PySem.W.mg_of X G a⟩
theorem cal_of {P : Program} {w : World} {K : PySem.W.Frag} {mg : PySem.Str → Option Value} {base : Heap} {k : Nat} {x : PySem.Str} {st : Stmt} {f : Addr} {fd : FuncData} {ps : List PySem.Str} {sp : Sp} (F : Fun K x x st f fd) (m : mg x = some (.ref f)) (b : Binds K fd ps []) (G : FnOk P w K mg base CX0 k f fd ps sp) :
    C8.Cal P w K mg base k x sp [] := ⟨⟨f, fd, ps, [], G, m, F.kp, b, .nil⟩⟩
theorem calG_of {P : Program} {w : World} {K : PySem.W.Frag} {mg : PySem.Str → Option Value} {base : Heap} {k : Nat} {x : PySem.Str} {st : Stmt} {f : Addr} {fd : FuncData} {ps : List PySem.Str} {sp : Sp} (F : Fun K x x st f fd) (m : mg x = some (.ref f)) (b : Binds K fd ps []) (G : FnG P w K mg base k f fd ps sp) :
    CalG P w K mg base k x sp := ⟨⟨f, fd, ps, G, m, F.kp, b⟩⟩
theorem kbn_of {K : PySem.W.Frag} {x : PySem.Str} {st : Stmt} {f : Addr} {fd : FuncData} {ps ks : List PySem.Str} (F : Fun K x x st f fd) (g : {α : Type} → List α → List α → List α)
    (hrel : ∀ {vs : List V} {us : List Value} {zs : List V} {ws : List Value}, Vals vs us → Vals zs ws → Vals (g vs zs) (g us ws))
    (h : ∀ (kV doc pm : Value) (an : Option Addr) (cdv ct : Value) (ws : List Value), ws.length = ks.length → bindArgs (PySem.W.fnOf x x (defArgs st) (defBody st) (defScope st) .none kV doc pm an cdv ct) ⟨[], ks.zip ws⟩ = pure (ps.zip (g [] ws))) : KBn K fd ps 0 ks g g := by
  obtain ⟨oc, od, kV, doc, pm, an, cdv, ct, osl, efd, lk, hcd⟩ := F.ex
  subst efd
  refine ⟨fun s us ws _ h0 h1 => ?_, hrel⟩
  cases us with
  | nil => exact .of_eq (h kV doc pm an cdv ct ws h1)
  | cons u us => cases h0
theorem kcal_of {P : Program} {w : World} {K : PySem.W.Frag} {mg : PySem.Str → Option Value} {base : Heap} {k : Nat} {x : PySem.Str} {st : Stmt} {f : Addr} {fd : FuncData} {ps ks : List PySem.Str} {sp : Sp} {gV : List V → List V → List V} {g : List Value → List Value → List Value} (F : Fun K x x st f fd) (m : mg x = some (.ref f)) (b : KBn K fd ps 0 ks g gV) (G : FnOk P w K mg base CX0 k f fd ps sp) :
    KCal P w K mg base k x sp ks gV := ⟨⟨f, fd, ps, g, G, m, F.kp, b⟩⟩
def gSwap {α : Type} : List α → List α → List α := fun _ zs => match zs with
  | [a, b] => [b, a]
  | l => l
theorem gSwap_rel {vs : List V} {us : List Value} {zs : List V} {ws : List Value} (_ : Vals vs us) (r : Vals zs ws) : Vals (gSwap vs zs) (gSwap us ws) := by
  cases r with
  | nil => exact .nil
  | cons r1 r =>
    cases r with
    | nil => exact .cons r1 .nil
    | cons r2 r =>
      cases r with
      | nil => exact .cons r2 (.cons r1 .nil)
      | cons r3 r => exact .cons r1 (.cons r2 (.cons r3 r))
end Un

set_option maxRecDepth 100000
set_option maxHeartbeats 4000000
namespace Un
open PySem PySem.Spec PyProof.Rows L2
/-! ### the text by places, the defs' scopes -/
def topS (i : Nat) : Stmt := PySem.Challenge.pw_unnoted_k01_pieces_and_trees.main.body.getD i (.Pass ⟨0, 0, 0, 0⟩)
abbrev s_is_whole : Stmt := topS 5
theorem sc_is_whole : FnScope ["thing"] ["thing"] (defScope s_is_whole) := ⟨rfl, rfl, rfl, by decide +kernel, rfl, by decide +kernel, by decide +kernel⟩
abbrev s_is_cell : Stmt := topS 6
theorem sc_is_cell : FnScope ["cells", "thing"] ["cells", "thing"] (defScope s_is_cell) := ⟨rfl, rfl, rfl, by decide +kernel, rfl, by decide +kernel, by decide +kernel⟩
abbrev s_is_exchange : Stmt := topS 7
theorem sc_is_exchange : FnScope ["cells", "thing", "first", "second"] ["cells", "thing"] (defScope s_is_exchange) := ⟨rfl, rfl, rfl, by decide +kernel, rfl, by decide +kernel, by decide +kernel⟩
abbrev s_check_cells : Stmt := topS 8
theorem sc_check_cells : FnScope ["cells"] ["cells"] (defScope s_check_cells) := ⟨rfl, rfl, rfl, by decide +kernel, rfl, by decide +kernel, by decide +kernel⟩
abbrev s_check_web : Stmt := topS 9
theorem sc_check_web : FnScope ["cells", "web", "before", "index", "thing"] ["cells", "web"] (defScope s_check_web) := ⟨rfl, rfl, rfl, by decide +kernel, rfl, by decide +kernel, by decide +kernel⟩
abbrev s_pieces : Stmt := topS 11
theorem sc_pieces : FnScope ["cells", "web"] ["cells", "web"] (defScope s_pieces) := ⟨rfl, rfl, rfl, by decide +kernel, rfl, by decide +kernel, by decide +kernel⟩
abbrev s_is_tree : Stmt := topS 12
theorem sc_is_tree : FnScope ["cells", "web"] ["cells", "web"] (defScope s_is_tree) := ⟨rfl, rfl, rfl, by decide +kernel, rfl, by decide +kernel, by decide +kernel⟩
abbrev s_pieces_of : Stmt := topS 13
theorem sc_pieces_of : FnScope ["cells", "web", "names", "first", "second", "low", "high", "leasts", "name", "cell", "least"] ["cells", "web"] (defScope s_pieces_of) := ⟨rfl, rfl, rfl, by decide +kernel, rfl, by decide +kernel, by decide +kernel⟩
abbrev s_l_draws : Stmt := topS 15
theorem sc_l_draws : FnScope ["_law_cell"] ["_law_cell"] (defScope s_l_draws) := ⟨rfl, rfl, rfl, by decide +kernel, rfl, by decide +kernel, by decide +kernel⟩
abbrev s_l_next : Stmt := topS 16
theorem sc_l_next : FnScope ["_law_draws_here", "_law_k", "_law_number"] ["_law_draws_here"] (defScope s_l_next) := ⟨rfl, rfl, rfl, by decide +kernel, rfl, by decide +kernel, by decide +kernel⟩
abbrev s_l_web : Stmt := topS 17
theorem sc_l_web : FnScope ["_law_draws_here", "_law_most", "_law_many", "_law_size", "_law_told", "_law_kind", "_law_k", "_law_turn", "_law_one", "_law_two"] ["_law_draws_here", "_law_most", "_law_many"] (defScope s_l_web) := ⟨rfl, rfl, rfl, by decide +kernel, rfl, by decide +kernel, by decide +kernel⟩
abbrev s_l_log : Stmt := topS 18
theorem sc_l_log : FnScope ["_law_draws_here", "_law_some", "_law_left", "_law_told"] ["_law_draws_here", "_law_some"] (defScope s_l_log) := ⟨rfl, rfl, rfl, by decide +kernel, rfl, by decide +kernel, by decide +kernel⟩
abbrev s_l_pieces : Stmt := topS 19
theorem sc_l_pieces : FnScope ["_law_size", "_law_some", "_law_marks", "_law_one", "_law_two", "_law_told", "_law_k", "_law_piece", "_law_mark", "_law_other"] ["_law_size", "_law_some"] (defScope s_l_pieces) := ⟨rfl, rfl, rfl, by decide +kernel, rfl, by decide +kernel, by decide +kernel⟩
abbrev s_l_every : Stmt := topS 20
theorem sc_l_every : FnScope ["_law_size", "_law_told", "_law_one", "_law_two"] ["_law_size"] (defScope s_l_every) := ⟨rfl, rfl, rfl, by decide +kernel, rfl, by decide +kernel, by decide +kernel⟩
abbrev s_l_right : Stmt := topS 21
theorem sc_l_right : FnScope ["_law_size", "_law_some", "_law_kept", "_law_due", "_law_told", "_law_piece", "_law_flag"] ["_law_size", "_law_some"] (defScope s_l_right) := ⟨rfl, rfl, rfl, by decide +kernel, rfl, by decide +kernel, by decide +kernel⟩
abbrev s_law : Stmt := topS 22
theorem sc_law : FnScope ["_law_script", "_law_draws_here", "_law_turn", "_law_size", "_law_some", "_law_every_here", "_law_cell"] ["_law_script"] (defScope s_law) := ⟨rfl, rfl, rfl, by decide +kernel, rfl, by decide +kernel, by decide +kernel⟩
end Un

set_option maxRecDepth 100000
set_option maxHeartbeats 4000000
namespace Un
open PySem PySem.Spec PyProof.Rows L2
/-! ### the built-in names -/
structure Txt (mg : Str → Option Value) : Prop where
  n_int : mg "int" = none
  n_bool : mg "bool" = none
  n_tuple : mg "tuple" = none
  n_list : mg "list" = none
  n_isinstance : mg "isinstance" = none
  n_len : mg "len" = none
  n_enumerate : mg "enumerate" = none
  n_range : mg "range" = none
  n_min : mg "min" = none
  n_max : mg "max" = none
  n_sorted : mg "sorted" = none
  n_set : mg "set" = none
  n_repr : mg "repr" = none
  g_MOST_CELLS : ∃ u, mg "MOST_CELLS" = some u ∧ RelV (.int 16) u
section
variable {P : Program} {w : World} {K : PySem.W.Frag} {mg : Str → Option Value} {base : Heap}
/-! ### the checks, where all is well -/
def spWhole : Sp := fun vs H Q _ => ∃ i : Int, vs = [.int i] ∧ Q (.bl true) H
theorem ok_is_whole {f : Addr} {fd : FuncData} (F : Fun K "is_whole" "is_whole" s_is_whole f fd) (T : Txt mg) : FnOk P w K mg base CX0 1 f fd ["thing"] spWhole := by
  refine F.ok sc_is_whole (fun vs H Q E h => ?_) (fun cdv A outer s H vs Q E hr h => ?_)
  · obtain ⟨i, rfl, _⟩ := h
    rfl
  · obtain ⟨i, rfl, q⟩ := h
    refine ⟨_, (pss_one (ps_ret (pe_and (pe_callB call_isi (by rfl) T.n_isinstance (by decide +kernel) (pa_cons (pv 0) (pa_cons (pe_bltn (v := .ty "int") (by rfl) T.n_int (by decide +kernel) rfl) pa_nil))) (pe_one (pe_not (pe_callB call_isi (by rfl) T.n_isinstance (by decide +kernel) (pa_cons (pv 0) (pa_cons (pe_bltn (v := .ty "bool") (by rfl) T.n_bool (by decide +kernel) rfl) pa_nil)))))))), ?_⟩
    refine ⟨_, rfl, .int i, .ty "int", .type "int", .type "int", true, rfl, .ty _, .base (.int i), kit_ty (by decide +kernel), true, rfl, iteT ?_⟩
    exact ⟨_, rfl, .int i, .ty "bool", .type "int", .type "bool", false, rfl, .ty _, .base (.int i), kit_ty (by decide +kernel), false, rfl, q⟩
def spCell : Sp := fun vs H Q _ => ∃ n i : Int, vs = [.int n, .int i] ∧ 1 ≤ i ∧ i ≤ n ∧ Q (.bl true) H
theorem ok_is_cell {f : Addr} {fd : FuncData} (F : Fun K "is_cell" "is_cell" s_is_cell f fd) (c : C8.Cal P w K mg base 1 "is_whole" spWhole []) : FnOk P w K mg base CX0 2 f fd ["cells", "thing"] spCell := by
  refine F.ok sc_is_cell (fun vs H Q E h => ?_) (fun cdv A outer s H vs Q E hr h => ?_)
  · obtain ⟨n, i, rfl, _⟩ := h
    rfl
  · obtain ⟨n, i, rfl, h1, h2, q⟩ := h
    refine ⟨_, (pss_one (ps_ret (pe_and (C8.pe_c c hr (by decide) (by rfl) (pa_cons (pv 1) pa_nil)) (pe_one (pe_chain op_le op_le pe_int (pv 1) (pv 0)))))), ?_⟩
    refine ⟨_, rfl, i, rfl, true, rfl, iteT ?_⟩
    refine ⟨_, rfl, 1, i, rfl, rfl, true, congrArg V.bl (decide_eq_true h1), iteT ?_⟩
    refine ⟨_, rfl, i, n, rfl, rfl, ?_⟩
    show Q (.bl (decide (i ≤ n))) H
    rw [decide_eq_true h2]
    exact q
def spExch (K : PySem.W.Frag) : Sp := fun vs H Q _ => ∃ (n u v : Int) (t : Addr), vs = [.int n, .ref t] ∧ H t = some (.tup [.int u, .int v]) ∧ 1 ≤ u ∧ u < v ∧ v ≤ n ∧ Q (.bl true) H
theorem ok_is_exchange {f : Addr} {fd : FuncData} (F : Fun K "is_exchange" "is_exchange" s_is_exchange f fd) (T : Txt mg) (c : C8.Cal P w K mg base 2 "is_cell" spCell []) : FnOk P w K mg base CX0 3 f fd ["cells", "thing"] (spExch K) := by
  refine F.ok sc_is_exchange (fun vs H Q E h => ?_) (fun cdv A outer s H vs Q E hr h => ?_)
  · obtain ⟨n, u, v, t, rfl, _⟩ := h
    rfl
  · obtain ⟨n, u, v, t, rfl, ht, h1, h2, h3, q⟩ := h
    refine ⟨_, (pss_cons (ps_if (PW.pt (pw_or (pt_not (pt_val (pe_callB call_isi (by rfl) T.n_isinstance (by decide +kernel) (pa_cons (pv 1) (pa_cons (pe_bltn (v := .ty "tuple") (by rfl) T.n_tuple (by decide +kernel) rfl) pa_nil))))) (pw_or1 (pt_cmpR op_ne (pe_callB call_len_seq (by rfl) T.n_len (by decide +kernel) (pa_cons (pv 1) pa_nil)) pe_int (by rfl))))) (pss_one (ps_ret pe_bl)) pss_nil)
      (pss_cons (ps_asg (pv 1) (pg_tup rfl (pgs_cons (pg_name (i := 2) sc_is_exchange.nd rfl (by first | exact Or.inl rfl | exact Or.inr rfl)) (pgs_cons (pg_name (i := 3) sc_is_exchange.nd rfl (by first | exact Or.inl rfl | exact Or.inr rfl)) pgs_nil))))
      (pss_one (ps_ret (pe_and (C8.pe_c c hr (by decide) (by rfl) (pa_cons (pv 0) (pa_cons (pv 2) pa_nil))) (pe_and (C8.pe_c c hr (by decide) (by rfl) (pa_cons (pv 0) (pa_cons (pv 3) pa_nil))) (pe_one (pe_cmpR op_lt (pv 2) (pv 3) (by rfl))))))))), ?_⟩
    refine ⟨_, rfl, .ref t, .ty "tuple", .type "tuple", .type "tuple", true, rfl, .ty _, .base (.tup ht), kit_ty (by decide +kernel), true, rfl, iteF ?_⟩
    refine ⟨_, rfl, t, _, rfl, .inr (sqT_of ht), rfl, false, rfl, iteF ?_⟩
    refine ⟨_, rfl, t, _, rfl, sqT_of ht, rfl, _, _, rfl, _, _, rfl, rfl, ?_⟩
    refine ⟨_, rfl, _, rfl, n, u, rfl, h1, by omega, true, rfl, iteT ?_⟩
    refine ⟨_, rfl, _, rfl, n, v, rfl, by omega, h3, true, rfl, iteT ?_⟩
    refine ⟨_, rfl, _, rfl, u, v, rfl, rfl, ?_⟩
    show Q (.bl (decide (u < v))) H
    rw [decide_eq_true h2]
    exact q
def spChkCells : Sp := fun vs H Q _ => ∃ n : Int, vs = [.int n] ∧ 1 ≤ n ∧ n ≤ 16 ∧ Q .non H
theorem ok_check_cells {f : Addr} {fd : FuncData} (F : Fun K "check_cells" "check_cells" s_check_cells f fd) (T : Txt mg) (c : C8.Cal P w K mg base 2 "is_cell" spCell []) : FnOk P w K mg base CX0 3 f fd ["cells"] spChkCells := by
  refine F.ok sc_check_cells (fun vs H Q E h => ?_) (fun cdv A outer s H vs Q E hr h => ?_)
  · obtain ⟨n, rfl, _⟩ := h
    rfl
  · obtain ⟨n, rfl, h1, h2, q⟩ := h
    refine ⟨_, (pss_one (ps_if (pt_not (pt_val (C8.pe_c c hr (by decide) (by rfl) (pa_cons (C8.pe_gc (by rfl) T.g_MOST_CELLS) (pa_cons (pv 0) pa_nil))))) (pss_one ps_never) pss_nil)), ?_⟩
    exact ⟨_, rfl, 16, n, rfl, h1, h2, true, rfl, iteF q⟩
end
end Un

set_option maxRecDepth 100000
set_option maxHeartbeats 4000000
namespace Un
open PySem PySem.Spec PyProof.Rows L2
section
variable {P : Program} {w : World} {K : PySem.W.Frag} {mg : Str → Option Value} {base : Heap}
def spChkWeb (K : PySem.W.Frag) : Sp := fun vs H Q _ => ∃ (n : Int) (a : Addr) (es : List (Int × Int)), vs = [.int n, .ref a] ∧ WebAt K H a es ∧ (∃ xs, H a = some (.lst xs)) ∧ Asc es ∧ Inb n es ∧ ∀ H', Same H H' → Q .non H'
theorem ok_check_web {f : Addr} {fd : FuncData} (F : Fun K "check_web" "check_web" s_check_web f fd) (T : Txt mg) (c : C8.Cal P w K mg base 3 "is_exchange" (spExch K) []) : FnOk P w K mg base CX0 4 f fd ["cells", "web"] (spChkWeb K) := by
  refine F.ok sc_check_web (fun vs H Q E h => ?_) (fun cdv A outer s H vs Q E hr h => ?_)
  · obtain ⟨n, a, es, rfl, _⟩ := h
    rfl
  · obtain ⟨n, a, es, rfl, hW, ⟨xs0, ha⟩, hA, hI, q⟩ := h
    obtain ⟨ts, hS, hP⟩ := hW
    refine ⟨_, (pss_cons (ps_if (pt_not (pt_val (pe_callB call_isi (by rfl) T.n_isinstance (by decide +kernel) (pa_cons (pv 1) (pa_cons (pe_bltn (v := .ty "list") (by rfl) T.n_list (by decide +kernel) rfl) pa_nil))))) (pss_one ps_never) pss_nil)
      (pss_cons (ps_set (i := 2) sc_check_web.nd rfl (by first | exact Or.inl rfl | exact Or.inr rfl) (pe_tup (pa_cons pe_int (pa_cons pe_int pa_nil))))
      (pss_one (ps_for PassesOwn.never rfl (pi_enum (by rfl) T.n_enumerate (pa_cons (pv 1) pa_nil)) (pg_tup rfl (pgs_cons (pg_name (i := 3) sc_check_web.nd rfl (by first | exact Or.inl rfl | exact Or.inr rfl)) (pgs_cons (pg_name (i := 4) sc_check_web.nd rfl (by first | exact Or.inl rfl | exact Or.inr rfl)) pgs_nil))) (pss_cons (ps_if (PW.pt (pw_or (pt_not (pt_val (C8.pe_c c hr (by decide) (by rfl) (pa_cons (pv 0) (pa_cons (pv 4) pa_nil))))) (pw_or1 (pt_cmpR (op_leT hr.units0) (pv 4) (pv 2) (by rfl))))) (pss_one ps_never) pss_nil)
        (pss_one (ps_set (i := 2) sc_check_web.nd rfl (by first | exact Or.inl rfl | exact Or.inr rfl) (pv 4)))))))), ?_⟩
    refine ⟨_, rfl, .ref a, .ty "list", .type "list", .type "list", true, rfl, .ty _, .base (.lst ha), kit_ty (by decide +kernel), true, rfl, iteF ?_⟩
    refine ⟨by decide, fun b nb => ?_⟩
    have s0 : Same H (upd H b (.tup [.int 0, .int 0])) := same_upd nb
    refine ⟨_, rfl, a, ts.map V.ref, rfl, s0.seq hS, ?_⟩
    refine for_enum (K := K) (a := a) (xs := ts.map V.ref) (fun i σ H' => ∃ (tb : Addr) (p r : Int) (v3 v4 : Option V), σ = [some (.int n), some (.ref a), some (.ref tb), v3, v4] ∧ Same H H' ∧ H' tb = some (.tup [.int p, .int r]) ∧
        ((i = 0 ∧ p = 0 ∧ r = 0) ∨ (0 < i ∧ es[i - 1]? = some (p, r)))) ⟨b, 0, 0, none, none, rfl, s0, upd_same, .inl ⟨rfl, rfl, rfl⟩⟩ ?_ ?_ ?_
    · rintro i σ H' _ ⟨_, _, _, _, _, _, s1, _⟩
      exact s1.seq hS
    · rintro i x Tt σ H' hx ⟨tb, p, r, v3, v4, rfl, s1, htb, hpr⟩ nT
      rw [List.getElem?_map] at hx
      obtain ⟨t, ht, rfl⟩ := Option.map_eq_some_iff.mp hx
      obtain ⟨e, he, hte⟩ := hP.get ht
      obtain ⟨i1, i2, i3⟩ := hI e (List.mem_of_getElem? he)
      have s2 : Same H' (upd H' Tt (.tup [.int (i : Nat), .ref t])) := same_upd nT
      have hte2 := s2 _ _ (s1 _ _ hte)
      refine ⟨Tt, _, rfl, sqT_of upd_same, rfl, _, _, rfl, _, _, rfl, rfl, ?_⟩
      refine ⟨_, rfl, _, rfl, n, e.1, e.2, t, rfl, hte2, i1, i2, i3, true, rfl, iteF ?_⟩
      refine ⟨_, rfl, _, rfl, t, tb, [e.1, e.2], [p, r], rfl, rfl, sqT_of hte2, sqT_of (s2 _ _ htb), false, ?_, iteF ?_⟩
      · rw [le_pair]
        refine qF ?_
        rcases hpr with ⟨_, rfl, rfl⟩ | ⟨h0, h1⟩
        · omega
        · have := hA.at (show i - 1 < i by omega) h1 he
          unfold Lt2 at this
          simp only at this
          omega
      · refine ⟨_, rfl, t, e.1, e.2, _, _, rfl, s1.trans s2, hte2, .inr ⟨Nat.succ_pos _, ?_⟩⟩
        rw [Nat.add_sub_cancel]
        exact he
    · rintro σ H' ⟨_, _, _, _, _, _, s1, _⟩
      exact q H' s1
/-! ### the draws -/
def Drw (H : Hp) (d : Addr) (k : Nat) : Prop := ∃ (a : Int) (b : Bool), H d = some (.lst [.int a, .int (k : Nat), .bl b]) ∧ 0 ≤ a
def spDraws : Sp := fun vs H Q _ => ∃ c : Int, vs = [.int c] ∧ ∀ H' d, Same H H' → H d = none → Drw H' d 0 → Q (.ref d) H'
theorem big_ok : CPowB 10 60 ∧ CPowB (10 ^ 60) 60 ∧ CPowB ((10 ^ 60) ^ 60) 4 := by
  unfold CPowB
  decide +kernel
theorem ok_draws {f : Addr} {fd : FuncData} (F : Fun K "_law_draws" "_law_draws" s_l_draws f fd) (T : Txt mg) : FnOk P w K mg base CX0 1 f fd ["_law_cell"] spDraws := by
  refine F.ok sc_l_draws (fun vs H Q E h => ?_) (fun cdv A outer s H vs Q E hr h => ?_)
  · obtain ⟨c, rfl, _⟩ := h
    rfl
  · obtain ⟨c, rfl, q⟩ := h
    refine ⟨_, (pss_one (ps_ret (pe_lst (pa_cons (pe_op op_mod (pe_callTy call_int1 (by rfl) T.n_int (by decide +kernel) (pa_cons (pv 0) pa_nil)) (pe_op op_powB (pe_op op_powB (pe_op op_powB pe_int pe_int) pe_int) pe_int)) (pa_cons pe_int (pa_cons (pe_cmpR op_ge (pv 0) (pe_op op_powB pe_int pe_int) (by rfl)) pa_nil)))))), ?_⟩
    refine ⟨_, rfl, .inl ⟨c, rfl, ?_⟩⟩
    refine ⟨10, 60, rfl, rfl, big_ok.1, ?_⟩
    refine ⟨10 ^ 60, 60, rfl, rfl, big_ok.2.1, ?_⟩
    refine ⟨(10 ^ 60) ^ 60, 4, rfl, rfl, big_ok.2.2, ?_⟩
    have pos : (0 : Int) < ((10 ^ 60) ^ 60) ^ 4 := Int.pow_pos (Int.pow_pos (Int.pow_pos (by decide)))
    refine ⟨c, ((10 ^ 60) ^ 60) ^ 4, rfl, rfl, pos, ?_⟩
    refine ⟨_, rfl, 10, 18, rfl, rfl, (by unfold CPowB; decide +kernel), ?_⟩
    refine ⟨c, 10 ^ 18, rfl, rfl, ?_⟩
    refine ⟨by show 3 ≤ sizeLine; decide, fun d nd => ?_⟩
    exact q _ d (same_upd nd) nd ⟨_, _, upd_same, Int.emod_nonneg _ (by omega)⟩
def spNext : Sp := fun vs H Q _ => ∃ (d : Addr) (k : Nat), vs = [.ref d] ∧ Drw H d k ∧ k < 2 ^ 30 ∧ ∀ H' (n : Int), SameBut (· = d) H H' → Drw H' d (k + 1) → 0 ≤ n → Q (.int n) H'
theorem ok_next {f : Addr} {fd : FuncData} (F : Fun K "_law_next" "_law_next" s_l_next f fd) (T : Txt mg) : FnOk P w K mg base CX0 1 f fd ["_law_draws_here"] spNext := by
  refine F.ok sc_l_next (fun vs H Q E h => ?_) (fun cdv A outer s H vs Q E hr h => ?_)
  · obtain ⟨d, k, rfl, _⟩ := h
    rfl
  · obtain ⟨d, k, rfl, ⟨a, b, hd, ha⟩, hk, q⟩ := h
    refine ⟨_, (pss_cons (ps_asg (pe_op op_add (pe_ix ix_list (pv 0) pe_int (fun _ _ => rfl)) pe_int) (pg_sub (pv 0) pe_int set_list))
      (pss_cons (ps_set (i := 1) sc_l_next.nd rfl (by first | exact Or.inl rfl | exact Or.inr rfl) (pe_ix ix_list (pv 0) pe_int (fun _ _ => rfl)))
      (pss_cons (ps_if (pt_val (pe_ix ix_list (pv 0) pe_int (fun _ _ => rfl))) (pss_cons (ps_set (i := 2) sc_l_next.nd rfl (by first | exact Or.inl rfl | exact Or.inr rfl) (pe_op op_mod (pe_callTy call_int1 (by rfl) T.n_int (by decide +kernel) (pa_cons (pe_ix ix_list (pv 0) pe_int (fun _ _ => rfl)) pa_nil)) (pe_op op_powB pe_int pe_int)))
        (pss_cons (ps_asg (pe_op op_fdiv (pe_ix ix_list (pv 0) pe_int (fun _ _ => rfl)) (pe_op op_powB pe_int pe_int)) (pg_sub (pv 0) pe_int set_list))
        (pss_one (ps_ret (pv 2))))) pss_nil)
      (pss_cons (ps_set (i := 2) sc_l_next.nd rfl (by first | exact Or.inl rfl | exact Or.inr rfl) (pe_op op_mod (pe_callTy call_int1 (by rfl) T.n_int (by decide +kernel) (pa_cons (pe_op op_mul (pe_op op_add (pe_op op_add (pe_op op_mod (pe_callTy call_int1 (by rfl) T.n_int (by decide +kernel) (pa_cons (pe_ix ix_list (pv 0) pe_int (fun _ _ => rfl)) pa_nil)) pe_int) (pe_op op_mul (pe_op op_mul (pv 1) (pv 1)) pe_int)) (pv 1)) pe_int) pa_nil)) pe_int))
      (pss_cons (ps_set (i := 2) sc_l_next.nd rfl (by first | exact Or.inl rfl | exact Or.inr rfl) (pe_op op_mod (pe_callTy call_int1 (by rfl) T.n_int (by decide +kernel) (pa_cons (pe_op op_mul (pv 2) (pv 2)) pa_nil)) pe_int))
      (pss_one (ps_ret (pe_op op_fdiv (pe_op op_mod (pe_callTy call_int1 (by rfl) T.n_int (by decide +kernel) (pa_cons (pe_op op_mul (pv 2) (pe_op op_add (pv 2) pe_int)) pa_nil)) pe_int) pe_int)))))))), ?_⟩
    -- the count
    refine ⟨_, rfl, d, _, 1, .int (k : Nat), rfl, rfl, sqL_of hd, atI_nat (j := 1) rfl, ?_⟩
    refine ⟨_, 1, rfl, rfl, ?_⟩
    refine ⟨_, rfl, d, _, 1, 1, rfl, rfl, hd, rfl, ?_⟩
    have hd1 : upd H d (.lst ([V.int a, .int (k : Nat), .bl b].set 1 (.int ((k : Nat) + 1)))) d = some (.lst [.int a, .int ((k + 1 : Nat) : Int), .bl b]) := by
      rw [upd_same]
      rfl
    have b1 : SameBut (· = d) H (upd H d (.lst ([V.int a, .int (k : Nat), .bl b].set 1 (.int ((k : Nat) + 1))))) := (SameBut.refl _ H).mut rfl
    generalize upd H d (.lst ([V.int a, .int (k : Nat), .bl b].set 1 (.int ((k : Nat) + 1)))) = H1 at hd1 b1
    refine ⟨_, rfl, d, _, 1, .int ((k + 1 : Nat) : Int), rfl, rfl, sqL_of hd1, atI_nat (j := 1) rfl, ?_⟩
    refine ⟨_, rfl, d, _, 2, .bl b, rfl, rfl, sqL_of hd1, atI_nat (j := 2) rfl, b, rfl, ?_⟩
    cases b with
    | true =>
      refine iteT ?_
      refine ⟨_, rfl, d, _, 0, .int a, rfl, rfl, sqL_of hd1, atI_nat (j := 0) rfl, .inl ⟨a, rfl, ?_⟩⟩
      refine ⟨10, 6, rfl, rfl, by unfold CPowB; decide +kernel, ?_⟩
      refine ⟨a, 10 ^ 6, rfl, rfl, (by show (0 : Int) < 10 ^ 6; decide), ?_⟩
      refine ⟨_, rfl, d, _, 0, .int a, rfl, rfl, sqL_of hd1, atI_nat (j := 0) rfl, ?_⟩
      refine ⟨10, 6, rfl, rfl, by unfold CPowB; decide +kernel, ?_⟩
      refine ⟨a, 10 ^ 6, rfl, rfl, by unfold CDiv; decide, ?_⟩
      refine ⟨_, rfl, d, _, 0, 0, rfl, rfl, hd1, rfl, ?_⟩
      refine ⟨_, rfl, ?_⟩
      refine q _ _ (b1.mut rfl) ⟨_, _, upd_same, Int.ediv_nonneg ha (by decide)⟩ (Int.emod_nonneg _ (by decide))
    | false =>
      refine iteF ?_
      refine ⟨_, rfl, d, _, 0, .int a, rfl, rfl, sqL_of hd1, atI_nat (j := 0) rfl, .inl ⟨a, rfl, ?_⟩⟩
      refine ⟨a, 1000003, rfl, rfl, (by show (0 : Int) < 1000003; decide), ?_⟩
      refine ⟨_, rfl, _, rfl, ((k + 1 : Nat) : Int), ((k + 1 : Nat) : Int), rfl, rfl, .inl (by omega), ?_⟩
      refine ⟨((k + 1 : Nat) : Int) * ((k + 1 : Nat) : Int), 7919, rfl, rfl, .inr (by decide), ?_⟩
      refine ⟨_, _, rfl, rfl, ?_⟩
      refine ⟨_, rfl, _, _, rfl, rfl, ?_⟩
      refine ⟨_, 48271, rfl, rfl, .inr (by decide), .inl ⟨_, rfl, ?_⟩⟩
      refine ⟨_, 2147483629, rfl, rfl, (by show (0 : Int) < 2147483629; decide), ?_⟩
      obtain ⟨n1, en1, h1, h2⟩ : ∃ n1 : Int, n1 = (a % 1000003 + ((k + 1 : Nat) : Int) * ((k + 1 : Nat) : Int) * 7919 + ((k + 1 : Nat) : Int)) * 48271 % 2147483629 ∧ 0 ≤ n1 ∧ n1 < 2147483629 :=
        ⟨_, rfl, Int.emod_nonneg _ (by decide), Int.emod_lt_of_pos _ (by decide)⟩
      refine ⟨_, rfl, _, rfl, n1, n1, by rw [en1], by rw [en1], .inl (by omega), .inl ⟨_, rfl, ?_⟩⟩
      refine ⟨_, 2147483587, rfl, rfl, (by show (0 : Int) < 2147483587; decide), ?_⟩
      obtain ⟨n2, en2, h3, h4⟩ : ∃ n2 : Int, n2 = n1 * n1 % 2147483587 ∧ 0 ≤ n2 ∧ n2 < 2147483587 := ⟨_, rfl, Int.emod_nonneg _ (by decide), Int.emod_lt_of_pos _ (by decide)⟩
      refine ⟨_, rfl, _, rfl, n2, 2, by rw [en2], rfl, ?_⟩
      refine ⟨n2, n2 + 2, by rw [en2], rfl, .inl (by omega), .inl ⟨_, rfl, ?_⟩⟩
      refine ⟨_, 2147483579, rfl, rfl, (by show (0 : Int) < 2147483579; decide), ?_⟩
      refine ⟨_, 7, rfl, rfl, by unfold CDiv; decide, ?_⟩
      exact q _ _ b1 ⟨_, _, hd1, ha⟩ (Int.ediv_nonneg (Int.emod_nonneg _ (by decide)) (by decide))
end
end Un

set_option maxRecDepth 100000
set_option maxHeartbeats 4000000
namespace Un
open PySem PySem.Spec PyProof.Rows L2
section
variable {P : Program} {w : World} {K : PySem.W.Frag} {mg : Str → Option Value} {base : Heap}
theorem Drw.is {H H' : Hp} {d : Addr} {k : Nat} (h : Drw H d k) : H d ≠ none := by
  obtain ⟨a, b, e, _⟩ := h
  rw [e]
  exact fun z => nomatch z
theorem Drw.keep {H H' : Hp} {d : Addr} {k : Nat} (h : Drw H d k) (e : ∀ o, H d = some o → H' d = some o) : Drw H' d k := by
  obtain ⟨a, b, q, r⟩ := h
  exact ⟨a, b, e _ q, r⟩
def pr2 (l : List Int) : Int × Int := (l.getD 0 0, l.getD 1 0)
/-- what the sorted set tells -/
theorem sorted_web {H : Hp} {n : Int} {L' : List (Addr × List Int)} (hn : n ≤ 16) (h : ∀ q ∈ L', ∃ u v : Int, q.2 = [u, v] ∧ 1 ≤ u ∧ u < v ∧ v ≤ n ∧ H q.1 = some (.tup [.int u, .int v])) (nd : (L'.map (·.2)).Nodup)
    (pw : L'.Pairwise fun q r => TS.code 64 q.2 ≤ TS.code 64 r.2) : Prs H (L'.map (·.1)) (L'.map fun q => pr2 q.2) ∧ Asc (L'.map fun q => pr2 q.2) ∧ Inb n (L'.map fun q => pr2 q.2) := by
  refine ⟨?_, ?_, ?_⟩
  · clear nd pw
    induction L' with
    | nil => exact .nil
    | cons q r ih =>
      obtain ⟨u, v, e, _, _, _, ht⟩ := h q List.mem_cons_self
      refine .cons ?_ (ih fun p hp => h p (List.mem_cons_of_mem _ hp))
      show H q.1 = some (.tup [.int (pr2 q.2).1, .int (pr2 q.2).2])
      rw [e]
      exact ht
  · unfold Asc
    rw [List.pairwise_map]
    have nd2 : L'.Pairwise fun q r => q.2 ≠ r.2 := by
      rw [List.Nodup, List.pairwise_map] at nd
      exact nd
    refine (pw.and nd2).imp_of_mem ?_
    rintro q r hq hr ⟨hc, hne⟩
    obtain ⟨u, v, e, a1, a2, a3, _⟩ := h q hq
    obtain ⟨u', v', e', b1, b2, b3, _⟩ := h r hr
    rw [e, e'] at hc hne
    show Lt2 (pr2 q.2) (pr2 r.2)
    rw [e, e']
    show u < u' ∨ (u = u' ∧ v < v')
    exact pair_lt hc hne (by omega) (by omega) (by omega) (by omega)
  · intro e he
    obtain ⟨q, hq, rfl⟩ := List.mem_map.mp he
    obtain ⟨u, v, e, a1, a2, a3, _⟩ := h q hq
    rw [e]
    exact ⟨a1, a2, a3⟩
theorem Prs.keys {H : Hp} : ∀ {ts : List Addr} {es : List (Int × Int)}, Prs H ts es → ∃ ks : List (Addr × List Int), (ks.map fun p => V.ref p.1) = ts.map V.ref ∧ ks.length = es.length ∧ ∀ p ∈ ks, ∃ e ∈ es, p.2 = [e.1, e.2] ∧ H p.1 = some (.tup [.int e.1, .int e.2])
  | _, _, .nil => ⟨[], rfl, rfl, fun p hp => (List.not_mem_nil hp).elim⟩
  | t :: ts, e :: es, .cons r q => by
    obtain ⟨ks, h1, h2, h3⟩ := Prs.keys q
    refine ⟨(t, [e.1, e.2]) :: ks, ?_, congrArg Nat.succ h2, fun p hp => ?_⟩
    · rw [List.map_cons, List.map_cons, h1]
    · rcases List.mem_cons.mp hp with rfl | hp
      · exact ⟨e, List.mem_cons_self, rfl, r⟩
      · obtain ⟨e', m, a⟩ := h3 p hp
        exact ⟨e', List.mem_cons_of_mem _ m, a⟩
def spWeb : Sp := fun vs H Q _ => ∃ (d : Addr) (most many : Int) (k : Nat), vs = [.ref d, .int most, .int many] ∧ Drw H d k ∧ k < 2 ^ 20 ∧ 1 ≤ most ∧ most ≤ 16 ∧ 0 ≤ many ∧ many ≤ 9 ∧
  ∀ (H' : Hp) (t a : Addr) (n : Int) (ts : List Addr) (es : List (Int × Int)) (k' : Nat), SameBut (· = d) H H' → H t = none → H a = none → H' t = some (.tup [.int n, .ref a]) → H' a = some (.lst (ts.map V.ref)) → Prs H' ts es →
    Drw H' d k' → k' ≤ k + 50 → 1 ≤ n → n ≤ most → es.length < 64 → Asc es → Inb n es → Q (.ref t) H'
set_option maxHeartbeats 8000000 in
theorem ok_web {f : Addr} {fd : FuncData} (F : Fun K "_law_web" "_law_web" s_l_web f fd) (T : Txt mg) (c : C8.Cal P w K mg base 1 "_law_next" spNext []) : FnOk P w K mg base CX0 2 f fd ["_law_draws_here", "_law_most", "_law_many"] spWeb := by
  refine F.ok sc_l_web (fun vs H Q E h => ?_) (fun cdv A outer s H vs Q E hr h => ?_)
  · obtain ⟨d, most, many, k, rfl, _⟩ := h
    rfl
  · obtain ⟨d, most, many, k, rfl, hd, hk, m1, m2, y1, y2, q⟩ := h
    refine ⟨_, (pss_cons (ps_set (i := 3) sc_l_web.nd rfl (by first | exact Or.inl rfl | exact Or.inr rfl) (pe_op op_add pe_int (pe_op op_mod (pe_callTy call_int1 (by rfl) T.n_int (by decide +kernel) (pa_cons (C8.pe_c c hr (by decide) (by rfl) (pa_cons (pv 0) pa_nil)) pa_nil)) (pv 1))))
      (pss_cons (ps_set (i := 4) sc_l_web.nd rfl (by first | exact Or.inl rfl | exact Or.inr rfl) (pe_lst pa_nil))
      (pss_cons (ps_set (i := 5) sc_l_web.nd rfl (by first | exact Or.inl rfl | exact Or.inr rfl) (pe_op op_mod (pe_callTy call_int1 (by rfl) T.n_int (by decide +kernel) (pa_cons (C8.pe_c c hr (by decide) (by rfl) (pa_cons (pv 0) pa_nil)) pa_nil)) pe_int))
      (pss_cons (ps_for PassesOwn.never rfl (pi_range2 (by rfl) T.n_range (pa_cons pe_int (pa_cons (pe_op op_add (pv 3) pe_int) pa_nil))) (pg_name (i := 6) sc_l_web.nd rfl (by first | exact Or.inl rfl | exact Or.inr rfl)) (pss_one (ps_if (pt_cmpR op_gt (pv 5) pe_int (by rfl)) (pss_one (ps_expr (pe_bm PySem.F.plainAttrs_list PySem.F.slot_list_append PySem.F.type_list_append mt_append (pv 4) (pa_cons (pe_tup (pa_cons (pe_op op_add pe_int (pe_op op_mod (pe_callTy call_int1 (by rfl) T.n_int (by decide +kernel) (pa_cons (C8.pe_c c hr (by decide) (by rfl) (pa_cons (pv 0) pa_nil)) pa_nil)) (pe_op op_sub (pv 6) pe_int))) (pa_cons (pv 6) pa_nil))) pa_nil)))) pss_nil)))
      (pss_cons (ps_for PassesOwn.never rfl (pi_range1 (by rfl) T.n_range (pa_cons (pe_ifExp (pt_cmpR op_lt (pv 5) pe_int (by rfl)) (pe_op op_mod (pe_callTy call_int1 (by rfl) T.n_int (by decide +kernel) (pa_cons (C8.pe_c c hr (by decide) (by rfl) (pa_cons (pv 0) pa_nil)) pa_nil)) (pe_op op_add (pv 2) pe_int)) pe_int) pa_nil)) (pg_name (i := 7) sc_l_web.nd rfl (by first | exact Or.inl rfl | exact Or.inr rfl)) (pss_cons (ps_set (i := 8) sc_l_web.nd rfl (by first | exact Or.inl rfl | exact Or.inr rfl) (pe_op op_add pe_int (pe_op op_mod (pe_callTy call_int1 (by rfl) T.n_int (by decide +kernel) (pa_cons (C8.pe_c c hr (by decide) (by rfl) (pa_cons (pv 0) pa_nil)) pa_nil)) (pv 3))))
        (pss_cons (ps_set (i := 9) sc_l_web.nd rfl (by first | exact Or.inl rfl | exact Or.inr rfl) (pe_op op_add pe_int (pe_op op_mod (pe_callTy call_int1 (by rfl) T.n_int (by decide +kernel) (pa_cons (C8.pe_c c hr (by decide) (by rfl) (pa_cons (pv 0) pa_nil)) pa_nil)) (pv 3))))
        (pss_one (ps_set (i := 4) sc_l_web.nd rfl (by first | exact Or.inl rfl | exact Or.inr rfl) (pe_op op_cat (pv 4) (pe_op op_rep (pe_lst (pa_cons (pe_tup (pa_cons (pe_callB (call_min2 rfl) (by rfl) T.n_min (by decide +kernel) (pa_cons (pv 8) (pa_cons (pv 9) pa_nil))) (pa_cons (pe_callB (call_max2 rfl) (by rfl) T.n_max (by decide +kernel) (pa_cons (pv 8) (pa_cons (pv 9) pa_nil))) pa_nil))) pa_nil)) (pe_callTy call_int1 (by rfl) T.n_int (by decide +kernel) (pa_cons (pe_cmpR op_ne (pv 8) (pv 9) (by rfl)) pa_nil)))))))))
      (pss_one (ps_ret (pe_tup (pa_cons (pv 3) (pa_cons (pe_callB (cr_sortedT rfl) (by rfl) T.n_sorted (by decide +kernel) (pa_cons (pe_callTy (cr_setOfT rfl hr.units) (by rfl) T.n_set (by decide +kernel) (pa_cons (pv 4) pa_nil)) pa_nil)) pa_nil)))))))))), ?_⟩

    -- size
    refine ⟨_, rfl, d, k, rfl, hd, by omega, fun H1 x1 b1 d1 z1 => .inl ⟨x1, rfl, ?_⟩⟩
    refine ⟨_, rfl, x1, most, rfl, rfl, (by show 0 < most; omega), ?_⟩
    have e1 := Int.emod_nonneg x1 (show most ≠ 0 by omega)
    have e2 := Int.emod_lt_of_pos x1 (show 0 < most by omega)
    refine ⟨1, x1 % most, rfl, rfl, ?_⟩
    obtain ⟨n1, n2⟩ : 1 ≤ 1 + x1 % most ∧ 1 + x1 % most ≤ most := by omega
    dsimp only
    generalize 1 + x1 % most = n at n1 n2 ⊢
    -- told = [], kind
    refine ⟨Nat.zero_le _, fun l nl => ?_⟩
    have ndl : d ≠ l := fun z => d1.is (H' := H1) (z ▸ nl)
    have nl0 : H l = none := b1.freshN (fun b e => e ▸ d1.is (H' := H1)) nl
    refine ⟨_, rfl, d, k + 1, rfl, d1.keep fun o e => by rw [upd_ne ndl]; exact e, by omega, fun H2 x2 b2 d2 z2 => .inl ⟨x2, rfl, ?_⟩⟩
    have B2 : SameBut (· = d) H H2 := (b1.mutN nl0).trans b2
    have hl2 : H2 l = some (.lst []) := b2 l _ ndl.symm upd_same
    clear b1 b2 d1 nl
    refine ⟨_, 4, rfl, rfl, (by show (0 : Int) < 4; decide), ?_⟩
    dsimp only
    generalize x2 % 4 = kind
    -- the first loop
    refine ⟨_, rfl, n, 1, rfl, rfl, 2, n + 1, rfl, (by omega), ?_⟩
    have en : (n + 1 - 2).toNat = n.toNat - 1 := by omega
    refine for_range (lo := 2) (fun i σ H' => ∃ (ts : List Addr) (es : List (Int × Int)) (k' : Nat) (v6 v7 v8 v9 : Option V), σ = [some (.ref d), some (.int most), some (.int many), some (.int n), some (.ref l), some (.int kind), v6, v7, v8, v9] ∧
        SameBut (· = d) H H' ∧ H' l = some (.lst (ts.map V.ref)) ∧ Prs H' ts es ∧ Drw H' d k' ∧ k' ≤ k + 2 + i ∧ es.length ≤ i ∧ Inb n es)
      ⟨[], [], k + 2, none, none, none, none, rfl, B2, hl2, .nil, d2, by omega, Nat.zero_le _, fun e he => (List.not_mem_nil he).elim⟩ ?_ ?_
    · rintro i σ H3 hi ⟨ts, es, k', v6, v7, v8, v9, rfl, b3, hl3, hP, d3, hk', hlen, hI⟩
      rw [en] at hi
      refine ⟨_, rfl, kind, 0, rfl, rfl, _, rfl, ite2 (fun _ => ?_) (fun _ => ?_)⟩
      · refine ⟨_, rfl, .inl ⟨rfl, _, sqL_of hl3⟩, ?_⟩
        refine ⟨_, rfl, d, k', rfl, d3, by omega, fun H4 x4 b4 d4 z4 => .inl ⟨x4, rfl, ?_⟩⟩
        refine ⟨_, rfl, 2 + (i : Int), 1, rfl, rfl, ?_⟩
        refine ⟨x4, 2 + (i : Int) - 1, rfl, rfl, (by show (0 : Int) < 2 + (i : Int) - 1; omega), ?_⟩
        have e1 := Int.emod_nonneg x4 (show 2 + (i : Int) - 1 ≠ 0 by omega)
        have e2 := Int.emod_lt_of_pos x4 (show 0 < 2 + (i : Int) - 1 by omega)
        refine ⟨1, _, rfl, rfl, _, rfl, ?_⟩
        refine ⟨by show 2 ≤ sizeLine; decide, fun t nt => ?_⟩
        dsimp only at nt ⊢
        obtain ⟨u1, u2⟩ : 1 ≤ 1 + x4 % (2 + (i : Int) - 1) ∧ 1 + x4 % (2 + (i : Int) - 1) < 2 + (i : Int) := by omega
        generalize 1 + x4 % (2 + (i : Int) - 1) = u at u1 u2 ⊢
        have hl4 := b4 l _ ndl.symm hl3
        have nlt : l ≠ t := ne_of_none hl4 nt
        refine ⟨l, _, _, rfl, rfl, (by rw [upd_ne nlt]; exact hl4), ?_, ?_⟩
        · rw [List.length_map, hP.length]
          exact Nat.lt_of_le_of_lt hlen (small1000 (by omega))
        · have hP5 : Prs (upd H4 t (.tup [.int u, .int (2 + (i : Int))])) (ts ++ [t]) (es ++ [(u, 2 + (i : Int))]) :=
            Prs.snoc ((hP.keep fun a xs e => b4 a _ (fun z => by
              subst z
              obtain ⟨_, _, e', _⟩ := d3
              rw [e'] at e
              cases e) e).keep fun a xs e => by rw [upd_ne (ne_of_none e nt)]; exact e) upd_same
          have hl5 : (upd H4 t (.tup [.int u, .int (2 + (i : Int))])) l = some (.lst (ts.map V.ref)) := by
            rw [upd_ne nlt]
            exact hl4
          refine ⟨ts ++ [t], es ++ [(u, 2 + (i : Int))], k' + 1, _, v7, v8, v9, rfl, ((b3.trans b4).new nt).mutN nl0, ?_, hP5.upd (fun xs z => by rw [hl5] at z; cases z), ?_, by omega, ?_, ?_⟩
          · rw [upd_same, map_snoc]
          · have ndt : d ≠ t := fun z => d4.is (H' := H4) (z ▸ nt)
            exact d4.keep fun o e => by
              rw [upd_ne ndl, upd_ne ndt]
              exact e
          · rw [List.length_append]
            exact Nat.succ_le_succ hlen
          · intro e he
            rcases List.mem_append.mp he with he | he
            · exact hI e he
            · rw [List.mem_singleton.mp he]
              exact ⟨u1, u2, by show 2 + (i : Int) ≤ n; omega⟩
      · exact ⟨ts, es, k', _, v7, v8, v9, rfl, b3, hl3, hP, d3, by omega, by omega, hI⟩
    · rintro σ H3 ⟨ts, es, k', v6, v7, v8, v9, rfl, b3, hl3, hP, d3, hk', hlen, hI⟩
      rw [en] at hk' hlen
      have hk3 : k' ≤ k + 20 := by omega
      have hlen3 : es.length ≤ 16 := by omega
      clear hk' hlen B2 hl2 d2
      -- the second loop
      refine ⟨_, rfl, kind, 3, rfl, rfl, _, rfl, ?_⟩
      refine if_via (fun v H4 => ∃ (j : Int) (k4 : Nat), v = .int j ∧ 0 ≤ j ∧ j ≤ many ∧ k4 ≤ k + 21 ∧ SameBut (· = d) H H4 ∧ H4 l = some (.lst (ts.map V.ref)) ∧ Prs H4 ts es ∧ Drw H4 d k4) ?_ (fun _ key => ?_) (fun _ key => ?_)
      · rintro v H4 ⟨j, k4, rfl, j0, jm, hk4, b4, hl4, hP4, d4⟩
        clear hl3 hP d3 b3
        refine ⟨j, rfl, by omega, by omega, ?_⟩
        refine for_range (lo := 0) (n := j.toNat) (fun i σ H' => ∃ (l : Addr) (ts : List Addr) (es : List (Int × Int)) (k' : Nat) (v6 v7 v8 v9 : Option V), σ = [some (.ref d), some (.int most), some (.int many), some (.int n), some (.ref l), some (.int kind), v6, v7, v8, v9] ∧
            SameBut (· = d) H H' ∧ H l = none ∧ H' l = some (.lst (ts.map V.ref)) ∧ Prs H' ts es ∧ Drw H' d k' ∧ k' ≤ k + 21 + 2 * i ∧ es.length ≤ 16 + i ∧ Inb n es)
          ⟨l, ts, es, k4, v6, v7, v8, v9, rfl, b4, nl0, hl4, hP4, d4, by omega, by omega, hI⟩ ?_ ?_
        · clear hl4 hP4 d4 b4 hlen3 hI hk4 hk3 nl0 ndl
          rintro i σ H5 hi ⟨l, ts, es, k', v6, v7, v8, v9, rfl, b5, nl, hl5, hP, d5, hk', hlen, hI⟩
          have dl : ∀ {H' : Hp} {k1 : Nat}, Drw H' d k1 → ∀ {a : Addr} {xs : List V}, H' a = some (.tup xs) → a ≠ d := fun D a xs e z => by
            subst z
            obtain ⟨_, _, e', _⟩ := D
            rw [e'] at e
            cases e
          have ld : l ≠ d := fun z => by
            subst z
            exact hd.is (H' := H) nl
          refine ⟨_, rfl, d, k', rfl, d5, by omega, fun H6 x6 b6 d6 z6 => .inl ⟨x6, rfl, ?_⟩⟩
          refine ⟨_, rfl, x6, n, rfl, rfl, (by show 0 < n; omega), ?_⟩
          refine ⟨1, x6 % n, rfl, rfl, ?_⟩
          have e1 := Int.emod_nonneg x6 (show n ≠ 0 by omega)
          have e2 := Int.emod_lt_of_pos x6 (show 0 < n by omega)
          dsimp only
          obtain ⟨u1, u2⟩ : 1 ≤ 1 + x6 % n ∧ 1 + x6 % n ≤ n := by omega
          generalize 1 + x6 % n = u at u1 u2 ⊢
          clear e1 e2
          refine ⟨_, rfl, d, k' + 1, rfl, d6, by omega, fun H7 x7 b7 d7 z7 => .inl ⟨x7, rfl, ?_⟩⟩
          refine ⟨_, rfl, x7, n, rfl, rfl, (by show 0 < n; omega), ?_⟩
          refine ⟨1, x7 % n, rfl, rfl, ?_⟩
          have e1 := Int.emod_nonneg x7 (show n ≠ 0 by omega)
          have e2 := Int.emod_lt_of_pos x7 (show 0 < n by omega)
          dsimp only
          obtain ⟨w1, w2⟩ : 1 ≤ 1 + x7 % n ∧ 1 + x7 % n ≤ n := by omega
          generalize 1 + x7 % n = z at w1 w2 ⊢
          clear e1 e2
          have hl7 := b7 l _ ld (b6 l _ ld hl5)
          have hP7 : Prs H7 ts es := hP.keep fun a xs e => b7 a _ (dl d5 e) (b6 a _ (dl d5 e) e)
          have B7 := (b5.trans b6).trans b7
          clear b7 b6 b5 hl5 hP d6 d5
          -- told + [(min, max)] * int(one != two)
          refine ⟨_, rfl, _, rfl, _, rfl, u, z, rfl, _, rfl, _, rfl, u, z, rfl, ?_⟩
          refine ⟨by show 2 ≤ sizeLine; decide, fun t nt => ?_⟩
          refine ⟨by show 1 ≤ sizeLine; decide, fun L nL => ?_⟩
          refine ⟨_, rfl, _, rfl, rfl, .inr ⟨_, rfl, ?_⟩⟩
          have hLt : (upd H7 t (.tup [.int (if z < u then z else u), .int (if z > u then z else u)])) t = some (.tup [.int (if z < u then z else u), .int (if z > u then z else u)]) := upd_same
          have B8 : SameBut (· = d) H (upd H7 t (.tup [.int (if z < u then z else u), .int (if z > u then z else u)])) := B7.new nt
          have hl8 : (upd H7 t (.tup [.int (if z < u then z else u), .int (if z > u then z else u)])) l = some (.lst (ts.map V.ref)) := by
            rw [upd_ne (ne_of_none hl7 nt)]
            exact hl7
          have hP8 : Prs (upd H7 t (.tup [.int (if z < u then z else u), .int (if z > u then z else u)])) ts es := hP7.keep fun a xs e => by
            rw [upd_ne (ne_of_none e nt)]
            exact e
          have d8 : Drw (upd H7 t (.tup [.int (if z < u then z else u), .int (if z > u then z else u)])) d (k' + 1 + 1) := d7.keep fun o e => by
            rw [upd_ne (ne_of_none e nt)]
            exact e
          generalize upd H7 t (.tup [.int (if z < u then z else u), .int (if z > u then z else u)]) = H8 at nL hLt B8 hl8 hP8 d8 ⊢
          have s9 : Same H8 (upd H8 L (.lst [.ref t])) := same_upd nL
          refine ⟨L, if (!decide (V.int u = V.int z)) = true then 1 else 0, _, rfl, rfl, upd_same, ?_, ?_, ?_, fun R nR => ?_⟩
          · split <;> decide
          · split <;> decide
          · show 1 * _ ≤ sizeLine
            split <;> decide
          · have s10 : Same (upd H8 L (.lst [.ref t])) (upd (upd H8 L (.lst [.ref t])) R (.lst (List.replicate (if (!decide (V.int u = V.int z)) = true then 1 else 0 : Int).toNat [.ref t]).flatten)) := same_upd nR
            refine ⟨l, R, _, _, rfl, rfl, s10 _ _ (s9 _ _ hl8), upd_same, ?_, fun M nM => ?_⟩
            · have h1 : ((List.replicate (if (!decide (V.int u = V.int z)) = true then 1 else 0 : Int).toNat [V.ref t]).flatten).length ≤ 1 := by
                split <;> simp
              rw [List.length_map, hP8.length]
              exact Nat.le_trans (Nat.add_le_add hlen h1) (Nat.le_of_lt (small1000 (by omega)))
            · have s11 := (s9.trans s10).trans (same_upd (o := .lst (ts.map V.ref ++ (List.replicate (if (!decide (V.int u = V.int z)) = true then 1 else 0 : Int).toNat [V.ref t]).flatten)) nM)
              have B9 : SameBut (· = d) H _ := B8.trans (Same.but s11)
              by_cases huz : u = z
              · refine ⟨M, ts, es, k' + 1 + 1, v6, _, _, _, rfl, B9, ?_, ?_, hP8.keep fun a xs e => s11 _ _ e, d8.keep fun o e => s11 _ _ e, by omega, by omega, hI⟩
                · exact B8.freshN (fun b e => e ▸ d8.is (H' := H8)) ((s9.trans s10).free nM)
                · rw [upd_same, huz]
                  simp
              · refine ⟨M, ts ++ [t], es ++ [(if z < u then z else u, if z > u then z else u)], k' + 1 + 1, v6, _, _, _, rfl, B9, ?_, ?_, Prs.snoc (hP8.keep fun a xs e => s11 _ _ e) (s11 _ _ hLt), d8.keep fun o e => s11 _ _ e, by omega, ?_, ?_⟩
                · exact B8.freshN (fun b e => e ▸ d8.is (H' := H8)) ((s9.trans s10).free nM)
                · have e0 : (!decide (V.int u = V.int z)) = true := by
                    rw [decide_eq_false (fun e => huz (V.int.inj e))]
                    rfl
                  rw [upd_same, if_pos e0, map_snoc]
                  rfl
                · rw [List.length_append]
                  exact Nat.succ_le_succ hlen
                · intro e he
                  rcases List.mem_append.mp he with he | he
                  · exact hI e he
                  · rw [List.mem_singleton.mp he]
                    show 1 ≤ (if z < u then z else u) ∧ (if z < u then z else u) < (if z > u then z else u) ∧ (if z > u then z else u) ≤ n
                    split <;> split <;> omega
        · rintro σ H5 ⟨l, ts, es, k', v6, v7, v8, v9, rfl, b5, nl, hl5, hP, d5, hk', hlen, hI⟩
          obtain ⟨ks, g1, g2, g3⟩ := hP.keys
          refine ⟨_, rfl, _, rfl, l, ks, rfl, sqL_of (by rw [g1]; exact hl5), ?_, by omega, fun a L na hsub hall => ?_⟩
          · intro p hp
            obtain ⟨e, _, e2, e3⟩ := g3 p hp
            rw [e2]
            exact sqT_of e3
          · have s6 : Same H5 (upd H5 a (SetTO P w a L)) := same_upd na
            have inL : ∀ p ∈ L, ∃ e ∈ es, p.2 = [e.1, e.2] ∧ (upd H5 a (SetTO P w a L)) p.1 = some (.tup [.int e.1, .int e.2]) := fun p hp => by
              obtain ⟨e, m, e2, e3⟩ := g3 p (hsub p hp)
              exact ⟨e, m, e2, s6 _ _ e3⟩
            refine ⟨a, L, 2, 64, rfl, upd_same, ?_, by decide, ?_, fun L' p perm nd few pw np => ?_⟩
            · intro p hp
              obtain ⟨e, _, e2, e3⟩ := inL p hp
              rw [e2]
              exact sqT_of e3
            · intro p hp
              obtain ⟨e, m, e2, e3⟩ := inL p hp
              obtain ⟨i1, i2, i3⟩ := hI e m
              rw [e2]
              refine ⟨rfl, ?_⟩
              intro x hx
              rcases List.mem_cons.mp hx with rfl | hx
              · omega
              · rw [List.mem_singleton.mp hx]
                omega
            · have s7 := s6.trans (same_upd (o := .lst (L'.map fun q => V.ref q.1)) np)
              obtain ⟨w1, w2, w3⟩ := sorted_web (H := upd (upd H5 a (SetTO P w a L)) p (.lst (L'.map fun q => V.ref q.1))) (n := n) (by omega) (fun r hr => by
                obtain ⟨e, m, e2, e3⟩ := inL r (perm.mem_iff.mp hr)
                obtain ⟨i1, i2, i3⟩ := hI e m
                exact ⟨e.1, e.2, e2, i1, i2, i3, same_upd np _ _ e3⟩) nd pw
              refine ⟨by show 2 ≤ sizeLine; decide, fun t nt => ?_⟩
              have s8 := s7.trans (same_upd (o := .tup [.int n, .ref p]) nt)
              refine q _ t p n (L'.map (·.1)) _ k' (b5.trans (Same.but s8)) ?_ ?_ upd_same ?_ (w1.keep fun b xs e => same_upd nt _ _ e) (d5.keep fun o e => s8 _ _ e) (by omega) n1 n2 (by rw [List.length_map]; exact few) w2 w3
              · exact b5.freshN (fun b e => e ▸ d5.is (H' := H5)) (s7.free nt)
              · exact b5.freshN (fun b e => e ▸ d5.is (H' := H5)) (s6.free np)
              · rw [upd_ne (ne_of_none upd_same nt), upd_same, List.map_map]
                rfl
      · refine ⟨_, rfl, d, k', rfl, d3, by omega, fun H4 x4 b4 d4 z4 => .inl ⟨x4, rfl, ?_⟩⟩
        refine ⟨_, rfl, many, 1, rfl, rfl, x4, many + 1, rfl, rfl, (by show 0 < many + 1; omega), ?_⟩
        refine key _ _ ⟨x4 % (many + 1), k' + 1, rfl, Int.emod_nonneg _ (by omega), ?_, by omega, b3.trans b4, b4 l _ ndl.symm hl3, ?_, d4⟩
        · have := Int.emod_lt_of_pos x4 (show 0 < many + 1 by omega)
          omega
        · exact hP.keep fun a xs e => b4 a _ (fun z => by
            subst z
            obtain ⟨_, _, e', _⟩ := d3
            rw [e'] at e
            cases e) e
      · exact key _ _ ⟨0, k', rfl, by omega, y1, by omega, b3, hl3, hP, d3⟩
end
end Un

namespace Un
/-! ### pieces: the mathematics -/
def nAt (names : List Int) (c : Int) : Int := names.getD c.toNat 0
def cs (n : Int) : List Int := (List.range n.toNat).map fun (i : Nat) => 1 + (i : Int)
def names0 (n : Int) : List Int := (List.range (n + 1).toNat).map fun (i : Nat) => (i : Int)
def lo2 (a b : Int) : Int := if b < a then b else a
def hi2 (a b : Int) : Int := if b > a then b else a
def nStep (names : List Int) (e : Int × Int) : List Int :=
  names.map fun x => if x = hi2 (nAt names e.1) (nAt names e.2) then lo2 (nAt names e.1) (nAt names e.2) else x
def mStep (marks : List Int) (e : Int × Int) : List Int := marks.map fun x => if x = nAt marks e.2 then nAt marks e.1 else x
def namesF (n : Int) (es : List (Int × Int)) : List Int := es.foldl nStep (names0 n)
def marksF (n : Int) (es : List (Int × Int)) : List Int := es.foldl mStep (names0 n)
def cls (n : Int) (nm : List Int) (l : Int) : List Int := (cs n).filter fun c => decide (nAt nm c = l)
def leasts (n : Int) (nm : List Int) : List Int := (cs n).filter fun c => decide (nAt nm c = c)
def pcsF (n : Int) (es : List (Int × Int)) : List (List Int) := (leasts n (namesF n es)).map (cls n (namesF n es))
def lawOne (n : Int) (mk : List Int) (k : Int) : List (List Int) := if (cls n mk (nAt mk k)).getD 0 0 = k then [cls n mk (nAt mk k)] else []
def lawPcs (n : Int) (es : List (Int × Int)) : List (List Int) := (cs n).flatMap (lawOne n (marksF n es))

theorem mem_cs {n c : Int} : c ∈ cs n ↔ 1 ≤ c ∧ c ≤ n := by
  unfold cs
  rw [List.mem_map]
  constructor
  · rintro ⟨i, hi, rfl⟩
    have := List.mem_range.mp hi
    omega
  · rintro ⟨h1, h2⟩
    exact ⟨(c - 1).toNat, List.mem_range.mpr (by omega), by omega⟩
theorem cs_asc (n : Int) : (cs n).Pairwise (· < ·) := by
  unfold cs
  rw [List.pairwise_map]
  exact List.Pairwise.imp (fun h => by omega) List.pairwise_lt_range
theorem cs_len (n : Int) : (cs n).length = n.toNat := by
  unfold cs
  rw [List.length_map, List.length_range]
theorem names0_len (n : Int) : (names0 n).length = (n + 1).toNat := by
  unfold names0
  rw [List.length_map, List.length_range]
theorem nAt_map {names : List Int} (f : Int → Int) {c : Int} (h0 : 0 ≤ c) (h : c < names.length) : nAt (names.map f) c = f (nAt names c) := by
  unfold nAt
  have hc : c.toNat < names.length := by omega
  rw [List.getD_eq_getElem?_getD, List.getD_eq_getElem?_getD, List.getElem?_map, List.getElem?_eq_getElem hc] <;> rfl
theorem nAt_names0 {n c : Int} (h0 : 0 ≤ c) (h : c ≤ n) : nAt (names0 n) c = c := by
  unfold nAt names0
  have hc : c.toNat < (n + 1).toNat := by omega
  rw [List.getD_eq_getElem?_getD, List.getElem?_map, List.getElem?_range hc]
  show ((c.toNat : Nat) : Int) = c
  omega
/-- what stands between two turns -/
structure Alike (n : Int) (nm mk : List Int) : Prop where
  l1 : (nm.length : Int) = n + 1
  l2 : (mk.length : Int) = n + 1
  eq : ∀ i j, 1 ≤ i → i ≤ n → 1 ≤ j → j ≤ n → (nAt nm i = nAt nm j ↔ nAt mk i = nAt mk j)
  ge : ∀ i, 1 ≤ i → i ≤ n → 1 ≤ nAt nm i ∧ nAt nm i ≤ i
  fix : ∀ i, 1 ≤ i → i ≤ n → nAt nm (nAt nm i) = nAt nm i
theorem Alike.zero {n : Int} (hn : 0 ≤ n) : Alike n (names0 n) (names0 n) where
  l1 := by rw [names0_len]; omega
  l2 := by rw [names0_len]; omega
  eq := fun _ _ _ _ _ _ => Iff.rfl
  ge := fun i h1 h2 => by rw [nAt_names0 (by omega) h2]; omega
  fix := fun i h1 h2 => by rw [nAt_names0 (by omega) h2, nAt_names0 (by omega) h2]
theorem lohi (a b : Int) : (lo2 a b = a ∧ hi2 a b = b ∧ a ≤ b) ∨ (lo2 a b = b ∧ hi2 a b = a ∧ b ≤ a) := by
  unfold lo2 hi2
  by_cases h : b < a
  · rw [if_pos h, if_neg (by omega)]
    omega
  · rw [if_neg h]
    by_cases h2 : b > a
    · rw [if_pos h2]
      omega
    · rw [if_neg h2]
      omega
theorem merge1 {x y p q x' y' p' q' : Int} (a : x = y ↔ x' = y') (b : x = p ↔ x' = p') (c : x = q ↔ x' = q') (d : y = p ↔ y' = p') (e : y = q ↔ y' = q') (f : p = q ↔ p' = q') :
    ((if x = q then p else x) = (if y = q then p else y)) ↔ ((if x' = q' then p' else x') = (if y' = q' then p' else y')) := by
  by_cases h1 : x = q <;> by_cases h2 : y = q
  · rw [if_pos h1, if_pos h2, if_pos (c.mp h1), if_pos (e.mp h2)]
    exact ⟨fun _ => rfl, fun _ => rfl⟩
  · rw [if_pos h1, if_neg h2, if_pos (c.mp h1), if_neg fun z => h2 (e.mpr z)]
    exact ⟨fun z => (d.mp z.symm).symm, fun z => (d.mpr z.symm).symm⟩
  · rw [if_neg h1, if_pos h2, if_neg fun z => h1 (c.mpr z), if_pos (e.mp h2)]
    exact b
  · rw [if_neg h1, if_neg h2, if_neg fun z => h1 (c.mpr z), if_neg fun z => h2 (e.mpr z)]
    exact a
/-- the other way round -/
theorem merge2 {x y p q : Int} : ((if x = p then q else x) = (if y = p then q else y)) ↔ ((if x = q then p else x) = (if y = q then p else y)) := by
  split <;> split <;> split <;> split <;> omega
theorem Alike.step {n : Int} {nm mk : List Int} (h : Alike n nm mk) {e : Int × Int} (a1 : 1 ≤ e.1) (a2 : e.1 ≤ n) (b1 : 1 ≤ e.2) (b2 : e.2 ≤ n) : Alike n (nStep nm e) (mStep mk e) := by
  have l1 := h.l1
  have l2 := h.l2
  have n1 : ∀ i, 1 ≤ i → i ≤ n → nAt (nStep nm e) i = if nAt nm i = hi2 (nAt nm e.1) (nAt nm e.2) then lo2 (nAt nm e.1) (nAt nm e.2) else nAt nm i := fun i h1 h2 => nAt_map _ (by omega) (by omega)
  have n2 : ∀ i, 1 ≤ i → i ≤ n → nAt (mStep mk e) i = if nAt mk i = nAt mk e.2 then nAt mk e.1 else nAt mk i := fun i h1 h2 => nAt_map _ (by omega) (by omega)
  have lh := lohi (nAt nm e.1) (nAt nm e.2)
  have gu := h.ge e.1 a1 a2
  have gv := h.ge e.2 b1 b2
  have fu := h.fix e.1 a1 a2
  have fv := h.fix e.2 b1 b2
  refine ⟨?_, ?_, ?_, ?_, ?_⟩
  · unfold nStep
    rw [List.length_map]
    exact l1
  · unfold mStep
    rw [List.length_map]
    exact l2
  · intro i j i1 i2 j1 j2
    rw [n1 i i1 i2, n1 j j1 j2, n2 i i1 i2, n2 j j1 j2]
    have eij := h.eq i j i1 i2 j1 j2
    have eiu := h.eq i e.1 i1 i2 a1 a2
    have eiv := h.eq i e.2 i1 i2 b1 b2
    have eju := h.eq j e.1 j1 j2 a1 a2
    have ejv := h.eq j e.2 j1 j2 b1 b2
    have epq := h.eq e.1 e.2 a1 a2 b1 b2
    rcases lh with ⟨e1, e2, _⟩ | ⟨e1, e2, _⟩
    · rw [e1, e2]
      exact merge1 eij eiu eiv eju ejv epq
    · rw [e1, e2]
      exact merge2.trans (merge1 eij eiu eiv eju ejv epq)
  · intro i i1 i2
    rw [n1 i i1 i2]
    have := h.ge i i1 i2
    split <;> rcases lh with ⟨e1, e2, _⟩ | ⟨e1, e2, _⟩ <;> omega
  · intro i i1 i2
    have gi := h.ge i i1 i2
    have fi := h.fix i i1 i2
    rw [n1 i i1 i2]
    by_cases c : nAt nm i = hi2 (nAt nm e.1) (nAt nm e.2)
    · rw [if_pos c]
      have w1 : 1 ≤ lo2 (nAt nm e.1) (nAt nm e.2) ∧ lo2 (nAt nm e.1) (nAt nm e.2) ≤ n := by rcases lh with ⟨e1, e2, _⟩ | ⟨e1, e2, _⟩ <;> omega
      rw [n1 _ w1.1 w1.2]
      have w2 : nAt nm (lo2 (nAt nm e.1) (nAt nm e.2)) = lo2 (nAt nm e.1) (nAt nm e.2) := by
        rcases lh with ⟨e1, e2, _⟩ | ⟨e1, e2, _⟩
        · rw [e1]; exact fu
        · rw [e1]; exact fv
      rw [w2]
      split <;> rfl
    · rw [if_neg c, n1 _ gi.1 (by omega), fi, if_neg c]
theorem Alike.all {n : Int} : ∀ {es : List (Int × Int)} {nm mk : List Int}, (∀ e ∈ es, 1 ≤ e.1 ∧ e.1 < e.2 ∧ e.2 ≤ n) → Alike n nm mk → Alike n (es.foldl nStep nm) (es.foldl mStep mk)
  | [], _, _, _, h => h
  | e :: es, _, _, hI, h => by
    obtain ⟨i1, i2, i3⟩ := hI e List.mem_cons_self
    exact Alike.all (es := es) (fun f hf => hI f (List.mem_cons_of_mem _ hf)) (h.step i1 (by omega) (by omega) i3)
theorem head_least {p : Int → Bool} {r : Int} : ∀ {l : List Int}, l.Pairwise (· < ·) → r ∈ l → p r = true → (∀ o ∈ l, p o = true → r ≤ o) → (l.filter p).getD 0 0 = r
  | [], _, h, _, _ => (List.not_mem_nil h).elim
  | x :: xs, ha, hm, hp, hl => by
    obtain ⟨h1, h2⟩ := List.pairwise_cons.mp ha
    by_cases hx : p x = true
    · rw [List.filter_cons_of_pos hx]
      show x = r
      rcases List.mem_cons.mp hm with e | hm
      · exact e.symm
      · have := h1 r hm
        have := hl x List.mem_cons_self hx
        omega
    · rw [List.filter_cons_of_neg hx]
      have hr : r ∈ xs := by
        rcases List.mem_cons.mp hm with e | hm
        · rw [e] at hp
          exact absurd hp hx
        · exact hm
      exact head_least h2 hr hp fun o ho => hl o (List.mem_cons_of_mem _ ho)
theorem lawOne_eq {n : Int} {nm mk : List Int} (h : Alike n nm mk) {k : Int} (k1 : 1 ≤ k) (k2 : k ≤ n) : lawOne n mk k = if nAt nm k = k then [cls n nm k] else [] := by
  have e : cls n mk (nAt mk k) = cls n nm (nAt nm k) := by
    unfold cls
    refine List.filter_congr fun c hc => ?_
    obtain ⟨c1, c2⟩ := mem_cs.mp hc
    exact decide_eq_decide.mpr (h.eq c k c1 c2 k1 k2).symm
  have hg := h.ge k k1 k2
  have hh : (cls n nm (nAt nm k)).getD 0 0 = nAt nm k := by
    refine head_least (cs_asc n) (mem_cs.mpr ⟨hg.1, by omega⟩) (decide_eq_true (h.fix k k1 k2)) fun o ho hp => ?_
    obtain ⟨o1, o2⟩ := mem_cs.mp ho
    have := h.ge o o1 o2
    have := of_decide_eq_true hp
    omega
  unfold lawOne
  rw [e, hh]
  by_cases c : nAt nm k = k
  · rw [if_pos c, if_pos c, c]
  · rw [if_neg c, if_neg c]
theorem law_pcs {n : Int} {es : List (Int × Int)} (hn : 0 ≤ n) (hI : ∀ e ∈ es, 1 ≤ e.1 ∧ e.1 < e.2 ∧ e.2 ≤ n) : lawPcs n es = pcsF n es := by
  have h : Alike n (namesF n es) (marksF n es) := Alike.all hI (Alike.zero hn)
  unfold lawPcs pcsF leasts
  have key : ∀ l : List Int, (∀ k ∈ l, 1 ≤ k ∧ k ≤ n) → l.flatMap (lawOne n (marksF n es)) = (l.filter fun c => decide (nAt (namesF n es) c = c)).map (cls n (namesF n es)) := by
    intro l
    induction l with
    | nil => intro _; rfl
    | cons k l ih =>
      intro hl
      obtain ⟨k1, k2⟩ := hl k List.mem_cons_self
      rw [List.flatMap_cons, ih fun m hm => hl m (List.mem_cons_of_mem _ hm), lawOne_eq h k1 k2]
      by_cases c : nAt (namesF n es) k = k
      · rw [if_pos c, List.filter_cons, if_pos (by simp [c])] <;> rfl
      · rw [if_neg c, List.filter_cons, if_neg (by simp [c])] <;> rfl
  exact key _ fun k hk => mem_cs.mp hk
theorem pcsF_small {n : Int} {es : List (Int × Int)} : (pcsF n es).length ≤ n.toNat ∧ ∀ xs ∈ pcsF n es, xs.length ≤ n.toNat ∧ ∀ c ∈ xs, 1 ≤ c ∧ c ≤ n := by
  unfold pcsF leasts cls
  refine ⟨?_, ?_⟩
  · rw [List.length_map, ← cs_len n]
    exact List.length_filter_le _ _
  · intro xs hx
    obtain ⟨l, _, rfl⟩ := List.mem_map.mp hx
    refine ⟨?_, fun c hc => mem_cs.mp (List.mem_filter.mp hc).1⟩
    rw [← cs_len n]
    exact List.length_filter_le _ _
end Un

set_option maxRecDepth 100000
set_option maxHeartbeats 8000000
namespace Un
open PySem PySem.Spec PyProof.Rows L2
section
variable {P : Program} {w : World} {K : PySem.W.Frag} {mg : Str → Option Value} {base : Heap}
theorem rgV_names0 (n : Int) : rgV 0 (n + 1) = (names0 n).map V.int := by
  unfold rgV names0
  rw [List.map_map]
  have e : n + 1 - 0 = n + 1 := by omega
  rw [e]
  refine List.map_congr_left fun i _ => ?_
  show V.int (0 + (i : Int)) = V.int (i : Int)
  rw [Int.zero_add]
theorem atI_names {names : List Int} {c : Int} (h0 : 0 ≤ c) (h : c < names.length) : atI (names.map V.int) c = some (.int (nAt names c)) := by
  have hc : c.toNat < names.length := by omega
  have e : ((c.toNat : Nat) : Int) = c := by omega
  have g : (names.map V.int)[c.toNat]? = some (.int (nAt names c)) := by
    unfold nAt
    rw [List.getElem?_map, List.getElem?_eq_getElem hc, List.getD_eq_getElem?_getD, List.getElem?_eq_getElem hc] <;> rfl
  have r := atI_nat g
  rw [e] at r
  exact r
theorem cs_take (n : Int) (i : Nat) (hi : i < n.toNat) : (cs n).take (i + 1) = (cs n).take i ++ [1 + (i : Int)] := by
  have g : (cs n)[i]? = some (1 + (i : Int)) := by
    unfold cs
    rw [List.getElem?_map, List.getElem?_range hi] <;> rfl
  rw [List.take_add_one, g] <;> rfl
def spPcs (K : PySem.W.Frag) : Sp := fun vs H Q _ => ∃ (n : Int) (a : Addr) (es : List (Int × Int)), vs = [.int n, .ref a] ∧ WebAt K H a es ∧ 0 ≤ n ∧ n ≤ 16 ∧ Inb n es ∧
  ∀ (H' : Hp) (p : Addr) (as : List Addr), Same H H' → H p = none → (∀ b ∈ as, H b = none) → LLAt H' p as (pcsF n es) → Q (.ref p) H'
theorem ok_pieces_of {f : Addr} {fd : FuncData} {k : Nat} (F : Fun K "pieces_of" "pieces_of" s_pieces_of f fd) (T : Txt mg) : FnOk P w K mg base CX0 (k + 1) f fd ["cells", "web"] (spPcs K) := by
  refine F.ok sc_pieces_of (fun vs H Q E h => ?_) (fun cdv A outer s H vs Q E hr h => ?_)
  · obtain ⟨n, a, es, rfl, _⟩ := h
    rfl
  · obtain ⟨n, a, es, rfl, ⟨ts, hS, hP⟩, n0, n16, hI, q⟩ := h
    refine ⟨_, (pss_cons (ps_set (i := 2) sc_pieces_of.nd rfl (by first | exact Or.inl rfl | exact Or.inr rfl) (pe_listRg rfl (by rfl) T.n_list (prg_1 (by rfl) T.n_range (pe_op op_add (pv 0) pe_int))))
      (pss_cons (ps_for PassesOwn.never rfl (pi_list (pv 1)) (pg_tup rfl (pgs_cons (pg_name (i := 3) sc_pieces_of.nd rfl (by first | exact Or.inl rfl | exact Or.inr rfl)) (pgs_cons (pg_name (i := 4) sc_pieces_of.nd rfl (by first | exact Or.inl rfl | exact Or.inr rfl)) pgs_nil))) (pss_cons (ps_set (i := 5) sc_pieces_of.nd rfl (by first | exact Or.inl rfl | exact Or.inr rfl) (pe_callB (call_min2 rfl) (by rfl) T.n_min (by decide +kernel) (pa_cons (pe_ix ix_list (pv 2) (pv 3) (fun _ _ => rfl)) (pa_cons (pe_ix ix_list (pv 2) (pv 4) (fun _ _ => rfl)) pa_nil))))
        (pss_cons (ps_set (i := 6) sc_pieces_of.nd rfl (by first | exact Or.inl rfl | exact Or.inr rfl) (pe_callB (call_max2 rfl) (by rfl) T.n_max (by decide +kernel) (pa_cons (pe_ix ix_list (pv 2) (pv 3) (fun _ _ => rfl)) (pa_cons (pe_ix ix_list (pv 2) (pv 4) (fun _ _ => rfl)) pa_nil))))
        (pss_one (ps_set (i := 2) sc_pieces_of.nd rfl (by first | exact Or.inl rfl | exact Or.inr rfl) (pe_lc (own := [("name", 8)]) rfl sc_pieces_of.nd (pi_list (pv 2)) (blkOk_by (by kernel_rfl)) (fun _ _ _ _ _ => (pg_name (i := 8) sc_pieces_of.nd rfl (by first | exact Or.inl rfl | exact Or.inr rfl))) (fun _ _ _ _ _ => pts_nil) (fun _ _ _ _ _ => (pe_ifExp (pt_cmpR op_eq (pv 8) (pv 6) (by rfl)) (pv 5) (pv 8)))))))))
      (pss_cons (ps_setLc (i := 7) (own := [("cell", 9)]) rfl sc_pieces_of.nd rfl rfl (sw_true rfl rfl rfl (by decide +kernel)) (pi_range2 (by rfl) T.n_range (pa_cons pe_int (pa_cons (pe_op op_add (pv 0) pe_int) pa_nil))) (blkOk_by (by kernel_rfl)) (fun _ _ _ _ _ => (pg_name (i := 9) sc_pieces_of.nd rfl (by first | exact Or.inl rfl | exact Or.inr rfl))) (fun _ _ _ _ _ => (pts_one (pt_cmpR op_eq (pe_ix (r := rIxL K) ix_list (pv 2) (pv 9) (fun _ _ => rfl)) (pv 9) (by rfl)))) (fun _ _ _ _ _ => (pv 9)))
      (pss_one (ps_ret (pe_lc (own := [("least", 10)]) rfl sc_pieces_of.nd (pi_list (pv 7)) (blkOk_by (by kernel_rfl)) (fun _ _ _ _ _ => (pg_name (i := 10) sc_pieces_of.nd rfl (by first | exact Or.inl rfl | exact Or.inr rfl))) (fun _ _ _ _ _ => pts_nil) (fun _ _ _ _ _ => (pe_lc (own := [("cell", 9)]) rfl sc_pieces_of.nd (pi_range2 (by rfl) T.n_range (pa_cons pe_int (pa_cons (pe_op op_add (pv 0) pe_int) pa_nil))) (blkOk_by (by kernel_rfl)) (fun _ _ _ _ _ => (pg_name (i := 9) sc_pieces_of.nd rfl (by first | exact Or.inl rfl | exact Or.inr rfl))) (fun _ _ _ _ _ => (pts_one (pt_cmpR op_eq (pe_ix (r := rIxL K) ix_list (pv 2) (pv 9) (fun _ _ => rfl)) (pv 10) (by rfl)))) (fun _ _ _ _ _ => (pv 9)))))))))), ?_⟩
    -- names = list(range(cells + 1))
    refine ⟨_, rfl, n, 1, rfl, rfl, n + 1, rfl, .of_le (by omega) (by omega) (by omega) (by omega), fun l nl => ?_⟩
    have s0 : Same H (upd H l (.lst (rgV 0 (n + 1)))) := same_upd nl
    -- the loop
    refine ⟨_, rfl, a, rfl, ⟨_, s0.seq hS⟩, for_list (K := K) (a := a) (xs := ts.map V.ref) (fun i σ H' => ∃ (l : Addr) (v3 v4 v5 v6 v7 v8 v9 v10 : Option V), σ = [some (.int n), some (.ref a), some (.ref l), v3, v4, v5, v6, v7, v8, v9, v10] ∧ Same H H' ∧ H l = none ∧
        H' l = some (.lst (((es.take i).foldl nStep (names0 n)).map V.int))) ⟨l, none, none, none, none, none, none, none, none, rfl, s0, nl, by rw [upd_same, rgV_names0]; rfl⟩ (fun i σ H' _ ⟨_, _, _, _, _, _, _, _, _, _, s1, _⟩ => s1.seq hS) ?_ ?_⟩
    · rintro i x σ H1 hx ⟨l, v3, v4, v5, v6, v7, v8, v9, v10, rfl, s1, nl, hl⟩
      rw [List.getElem?_map] at hx
      obtain ⟨t, ht, rfl⟩ := Option.map_eq_some_iff.mp hx
      obtain ⟨e, he, hte⟩ := hP.get ht
      obtain ⟨i1, i2, i3⟩ := hI e (List.mem_of_getElem? he)
      have hlen : ∀ (fs : List (Int × Int)) (nm : List Int), ((fs.foldl nStep nm).length : Int) = nm.length := by
        intro fs
        induction fs with
        | nil => intro nm; rfl
        | cons f fs ih =>
          intro nm
          rw [List.foldl_cons, ih]
          unfold nStep
          rw [List.length_map]
      have hL : (((es.take i).foldl nStep (names0 n)).length : Int) = n + 1 := by
        rw [hlen, names0_len]
        omega
      have hnext : (es.take (i + 1)).foldl nStep (names0 n) = nStep ((es.take i).foldl nStep (names0 n)) e := by
        rw [List.take_add_one, he, List.foldl_append] <;> rfl
      rw [hnext]
      generalize (es.take i).foldl nStep (names0 n) = nm at hl hL ⊢
      refine ⟨t, _, rfl, sqT_of (s1 _ _ hte), rfl, _, _, rfl, _, _, rfl, rfl, ?_⟩
      -- low, high
      refine ⟨_, rfl, _, rfl, l, _, e.1, _, rfl, rfl, sqL_of hl, atI_names (by omega) (by omega), _, rfl, _, rfl, l, _, e.2, _, rfl, rfl, sqL_of hl, atI_names (by omega) (by omega), _, _, rfl, ?_⟩
      refine ⟨_, rfl, _, rfl, l, _, e.1, _, rfl, rfl, sqL_of hl, atI_names (by omega) (by omega), _, rfl, _, rfl, l, _, e.2, _, rfl, rfl, sqL_of hl, atI_names (by omega) (by omega), _, _, rfl, ?_⟩
      -- names = [..]
      refine ⟨_, rfl, l, rfl, ⟨_, sqL_of hl⟩, fun D nD => ?_⟩
      have sD : Same H1 (upd H1 D (.lst [])) := same_upd nD
      refine lc_list (K := K) (a := l) (xs := nm.map V.int) (fun j H' => Same H1 H' ∧ H' D = some (.lst (((nm.take j).map fun x => if x = hi2 (nAt nm e.1) (nAt nm e.2) then lo2 (nAt nm e.1) (nAt nm e.2) else x).map V.int)))
        ⟨sD, upd_same⟩ (fun j H' _ ⟨s2, _⟩ => sqL_of (s2 _ _ hl)) ?_ ?_
      · rintro j y H2 hy ⟨s2, hD⟩
        rw [List.getElem?_map] at hy
        obtain ⟨x, hx, rfl⟩ := Option.map_eq_some_iff.mp hy
        refine ⟨rfl, yes (iteT ?_)⟩
        have fin : ∀ z : Int, z = (if x = hi2 (nAt nm e.1) (nAt nm e.2) then lo2 (nAt nm e.1) (nAt nm e.2) else x) →
            ∃ acc, H2 D = some (.lst acc) ∧ acc.length < sizeLine ∧ Same H1 (upd H2 D (.lst (acc ++ [V.int z]))) ∧ (upd H2 D (.lst (acc ++ [V.int z]))) D = some (.lst (((nm.take (j + 1)).map fun x => if x = hi2 (nAt nm e.1) (nAt nm e.2) then lo2 (nAt nm e.1) (nAt nm e.2) else x).map V.int)) := by
          intro z hz
          refine ⟨_, hD, ?_, Same.mut s2 nD, ?_⟩
          · rw [List.length_map, List.length_map, List.length_take]
            exact Nat.lt_of_le_of_lt (Nat.min_le_right _ _) (small1000 (by omega))
          · rw [upd_same, List.take_add_one, hx, List.map_append, List.map_append, hz] <;> rfl
        refine ⟨_, rfl, _, rfl, rfl, _, rfl, ite2 (fun c => ?_) (fun c => ?_)⟩
        · exact ⟨_, rfl, fin _ (if_pos (c := x = hi2 (nAt nm e.1) (nAt nm e.2)) (V.int.inj (of_decide_eq_true c))).symm⟩
        · exact ⟨_, rfl, fin _ (if_neg (c := x = hi2 (nAt nm e.1) (nAt nm e.2)) fun z => c (decide_eq_true (congrArg V.int z))).symm⟩
      · rintro H2 ⟨s2, hD⟩
        have eT : nm.take (nm.map V.int).length = nm := by rw [List.length_map, List.take_length]
        rw [eT] at hD
        exact ⟨D, _, _, _, _, _, _, _, _, rfl, s1.trans s2, s1.free nD, hD⟩
    · rintro σ H1 ⟨l, v3, v4, v5, v6, v7, v8, v9, v10, rfl, s1, nl, hl⟩
      have eT : es.take (ts.map V.ref).length = es := by rw [List.length_map, hP.length, List.take_length]
      rw [eT] at hl
      have hL : ((namesF n es).length : Int) = n + 1 := (Alike.all hI (Alike.zero n0)).l1
      have hl' : H1 l = some (.lst ((namesF n es).map V.int)) := hl
      clear hl
      have hq : ∀ (H' : Hp) (p : Addr) (as : List Addr), Same H H' → H p = none → (∀ b ∈ as, H b = none) → LLAt H' p as ((leasts n (namesF n es)).map (cls n (namesF n es))) → Q (.ref p) H' := q
      clear q
      generalize namesF n es = nm at hl' hL hq
      -- leasts
      refine ⟨_, rfl, n, 1, rfl, rfl, 1, n + 1, rfl, by omega, fun D nD => ?_⟩
      have en : (n + 1 - 1).toNat = n.toNat := by omega
      have cA : ∀ (i : Nat), i < n.toNat → (cs n).take (i + 1) = (cs n).take i ++ [1 + (i : Int)] := cs_take n
      have cL : ∀ i : Nat, ((cs n).take i).length ≤ 16 := fun i => by
        rw [List.length_take, cs_len]
        omega
      refine lc_range (lo := 1) (n := (n + 1 - 1).toNat) (fun j H' => Same H1 H' ∧ H' D = some (.lst ((((cs n).take j).filter fun c => decide (nAt nm c = c)).map V.int))) ⟨same_upd nD, upd_same⟩ ?_ ?_
      · rintro j H2 hj ⟨s2, hD⟩
        rw [en] at hj
        refine ⟨rfl, _, rfl, _, rfl, l, _, 1 + (j : Int), _, rfl, rfl, sqL_of (s2 _ _ hl'), atI_names (by omega) (by omega), _, rfl, rfl, _, rfl, ite2 (fun c => ?_) (fun c => ?_)⟩
        · refine ⟨_, rfl, _, hD, ?_, Same.mut s2 nD, ?_⟩
          · rw [List.length_map]
            exact Nat.lt_of_le_of_lt (Nat.le_trans (List.length_filter_le _ _) (cL j)) (small1000 (by omega))
          · rw [upd_same, cA j hj, List.filter_append, List.map_append, List.filter_cons, if_pos (decide_eq_true (V.int.inj (of_decide_eq_true c)))] <;> rfl
        · refine ⟨s2, ?_⟩
          rw [hD, cA j hj, List.filter_append, List.filter_cons, if_neg (by simpa using fun z => c (decide_eq_true (congrArg V.int z)))]
          simp
      · rintro H2 ⟨s2, hD⟩
        rw [en, show (cs n).take n.toNat = cs n by rw [← cs_len n, List.take_length]] at hD
        have hD' : H2 D = some (.lst ((leasts n nm).map V.int)) := hD
        clear hD
        have lL : (leasts n nm).length ≤ 16 := by
          unfold leasts
          refine Nat.le_trans (List.length_filter_le _ _) ?_
          rw [cs_len]
          omega
        have hl2 := s2 _ _ hl'
        have s12 := s1.trans s2
        -- the pieces
        refine ⟨_, rfl, D, rfl, ⟨_, sqL_of hD'⟩, fun R nR => ?_⟩
        refine lc_list (K := K) (a := D) (xs := (leasts n nm).map V.int) (fun i H' => ∃ as : List Addr, Same H2 H' ∧ H' R = some (.lst (as.map V.ref)) ∧ Rws H' as (((leasts n nm).take i).map (cls n nm)) ∧ ∀ b ∈ as, H2 b = none)
          ⟨[], same_upd nR, upd_same, .nil, fun b hb => (List.not_mem_nil hb).elim⟩ (fun i H' _ ⟨_, s3, _⟩ => sqL_of (s3 _ _ hD')) ?_ ?_
        · rintro i y H3 hy ⟨as, s3, hR, hW, hF⟩
          rw [List.getElem?_map] at hy
          obtain ⟨x, hx, rfl⟩ := Option.map_eq_some_iff.mp hy
          refine ⟨rfl, yes (iteT ?_)⟩
          refine ⟨_, rfl, n, 1, rfl, rfl, 1, n + 1, rfl, by omega, fun G nG => ?_⟩
          have sG := same_upd (o := .lst []) nG
          refine lc_range (lo := 1) (n := (n + 1 - 1).toNat) (fun j H' => Same H3 H' ∧ H' G = some (.lst ((((cs n).take j).filter fun c => decide (nAt nm c = x)).map V.int))) ⟨sG, upd_same⟩ ?_ ?_
          · rintro j H4 hj ⟨s4, hG⟩
            rw [en] at hj
            refine ⟨rfl, _, rfl, _, rfl, l, _, 1 + (j : Int), _, rfl, rfl, sqL_of (s4 _ _ (s3 _ _ hl2)), atI_names (by omega) (by omega), _, rfl, rfl, _, rfl, ite2 (fun c => ?_) (fun c => ?_)⟩
            · refine ⟨_, rfl, _, hG, ?_, Same.mut s4 nG, ?_⟩
              · rw [List.length_map]
                exact Nat.lt_of_le_of_lt (Nat.le_trans (List.length_filter_le _ _) (cL j)) (small1000 (by omega))
              · rw [upd_same, cA j hj, List.filter_append, List.map_append, List.filter_cons, if_pos (decide_eq_true (V.int.inj (of_decide_eq_true c)))] <;> rfl
            · refine ⟨s4, ?_⟩
              rw [hG, cA j hj, List.filter_append, List.filter_cons, if_neg (by simpa using fun z => c (decide_eq_true (congrArg V.int z)))]
              simp
          · rintro H4 ⟨s4, hG⟩
            rw [en, show (cs n).take n.toNat = cs n by rw [← cs_len n, List.take_length]] at hG
            have hal : as.length ≤ 16 := by
              rw [hW.length, List.length_map, List.length_take]
              omega
            have nRG : R ≠ G := ne_of_none hR nG
            refine ⟨_, s4 _ _ hR, by rw [List.length_map]; exact small1000 (by omega), as ++ [G], Same.mut (s3.trans s4) nR, ?_, ?_, ?_⟩
            · rw [upd_same, map_snoc]
            · rw [List.take_add_one, hx, List.map_append]
              refine Rws.append (hW.keep ?_) (.cons ?_ .nil)
              · intro b hb o e
                have nb : b ≠ R := by
                  intro z
                  subst z
                  obtain ⟨xs, hxs, e1⟩ := hW.mem hb
                  rw [hR] at e1
                  have e2 := HO.lst.inj (Option.some.inj e1)
                  -- a list of addresses is not a list of ints, and it is not empty
                  cases as with
                  | nil => exact List.not_mem_nil hb
                  | cons c cs' =>
                    cases xs with
                    | nil => cases e2
                    | cons z zs => cases e2
                rw [upd_ne nb]
                exact s4 _ _ e
              · rw [upd_ne nRG.symm]
                exact hG
            · intro b hb
              rcases List.mem_append.mp hb with hb | hb
              · exact hF b hb
              · rw [List.mem_singleton.mp hb]
                exact s3.free nG
        · rintro H3 ⟨as, s3, hR, hW, hF⟩
          rw [List.length_map, List.take_length] at hW
          exact hq H3 R as (s12.trans s3) (s12.free nR) (fun b hb => s12.free (hF b hb)) ⟨hR, hW⟩
end
end Un

set_option maxRecDepth 100000
set_option maxHeartbeats 8000000
namespace Un
open PySem PySem.Spec PyProof.Rows L2
/-- a web at a that is a list of its own -/
def WebL (H : Hp) (a : Addr) (es : List (Int × Int)) : Prop := ∃ ts : List Addr, H a = some (.lst (ts.map V.ref)) ∧ Prs H ts es
theorem WebL.at {K : PySem.W.Frag} {H : Hp} {a : Addr} {es : List (Int × Int)} (h : WebL H a es) : WebAt K H a es := by
  obtain ⟨ts, h1, h2⟩ := h
  exact ⟨ts, sqL_of h1, h2⟩
theorem WebL.same {H H' : Hp} {a : Addr} {es : List (Int × Int)} (h : WebL H a es) (s : Same H H') : WebL H' a es := by
  obtain ⟨ts, h1, h2⟩ := h
  exact ⟨ts, s _ _ h1, h2.keep fun t xs e => s _ _ e⟩
theorem WebL.lst {H : Hp} {a : Addr} {es : List (Int × Int)} (h : WebL H a es) : ∃ xs, H a = some (.lst xs) := by
  obtain ⟨ts, h1, _⟩ := h
  exact ⟨_, h1⟩
section
variable {P : Program} {w : World} {K : PySem.W.Frag} {mg : Str → Option Value} {base : Heap}
def spPieces : Sp := fun vs H Q _ => ∃ (n : Int) (a : Addr) (es : List (Int × Int)), vs = [.int n, .ref a] ∧ WebL H a es ∧ 1 ≤ n ∧ n ≤ 16 ∧ Asc es ∧ Inb n es ∧
  ∀ (H' : Hp) (p : Addr) (as : List Addr), Same H H' → H p = none → (∀ b ∈ as, H b = none) → LLAt H' p as (pcsF n es) → Q (.ref p) H'
theorem ok_pieces {f : Addr} {fd : FuncData} (F : Fun K "pieces" "pieces" s_pieces f fd) (c1 : C8.Cal P w K mg base 3 "check_cells" spChkCells []) (c2 : C8.Cal P w K mg base 4 "check_web" (spChkWeb K) []) (c3 : C8.Cal P w K mg base 1 "pieces_of" (spPcs K) []) :
    FnOk P w K mg base CX0 5 f fd ["cells", "web"] spPieces := by
  refine F.ok sc_pieces (fun vs H Q E h => ?_) (fun cdv A outer s H vs Q E hr h => ?_)
  · obtain ⟨n, a, es, rfl, _⟩ := h
    rfl
  · obtain ⟨n, a, es, rfl, hW, n1, n16, hA, hI, q⟩ := h
    refine ⟨_, (pss_cons (ps_expr (C8.pe_c c1 hr (by decide) (by rfl) (pa_cons (pv 0) pa_nil)))
      (pss_cons (ps_expr (C8.pe_c c2 hr (by decide) (by rfl) (pa_cons (pv 0) (pa_cons (pv 1) pa_nil))))
      (pss_one (ps_ret (C8.pe_c c3 hr (by decide) (by rfl) (pa_cons (pv 0) (pa_cons (pv 1) pa_nil))))))), ?_⟩
    refine ⟨_, rfl, n, rfl, n1, n16, ?_⟩
    refine ⟨_, rfl, _, rfl, n, a, es, rfl, hW.at, hW.lst, hA, hI, fun H1 s1 => ?_⟩
    refine ⟨_, rfl, _, rfl, n, a, es, rfl, (hW.same s1).at, by omega, n16, hI, fun H2 p as s2 np na hL => ?_⟩
    exact q H2 p as (s1.trans s2) (s1.free np) (fun b hb => s1.free (na b hb)) hL
def treeB (n : Int) (es : List (Int × Int)) : Bool := decide ((es.length : Int) = n - 1) && decide ((pcsF n es).length = 1)
def spIsTree : Sp := fun vs H Q _ => ∃ (n : Int) (a : Addr) (es : List (Int × Int)), vs = [.int n, .ref a] ∧ WebL H a es ∧ 1 ≤ n ∧ n ≤ 16 ∧ Asc es ∧ Inb n es ∧ ∀ H' : Hp, Same H H' → Q (.bl (treeB n es)) H'
theorem ok_is_tree {f : Addr} {fd : FuncData} (F : Fun K "is_tree" "is_tree" s_is_tree f fd) (T : Txt mg) (c1 : C8.Cal P w K mg base 3 "check_cells" spChkCells []) (c2 : C8.Cal P w K mg base 4 "check_web" (spChkWeb K) []) (c3 : C8.Cal P w K mg base 1 "pieces_of" (spPcs K) []) :
    FnOk P w K mg base CX0 5 f fd ["cells", "web"] spIsTree := by
  refine F.ok sc_is_tree (fun vs H Q E h => ?_) (fun cdv A outer s H vs Q E hr h => ?_)
  · obtain ⟨n, a, es, rfl, _⟩ := h
    rfl
  · obtain ⟨n, a, es, rfl, hW, n1, n16, hA, hI, q⟩ := h
    refine ⟨_, (pss_cons (ps_expr (C8.pe_c c1 hr (by decide) (by rfl) (pa_cons (pv 0) pa_nil)))
      (pss_cons (ps_expr (C8.pe_c c2 hr (by decide) (by rfl) (pa_cons (pv 0) (pa_cons (pv 1) pa_nil))))
      (pss_one (ps_ret (pe_and (pe_cmpR op_eq (pe_callB call_len_seq (by rfl) T.n_len (by decide +kernel) (pa_cons (pv 1) pa_nil)) (pe_op op_sub (pv 0) pe_int) (by rfl)) (pe_one (pe_cmpR op_eq (pe_callB call_len_seq (by rfl) T.n_len (by decide +kernel) (pa_cons (C8.pe_c c3 hr (by decide) (by rfl) (pa_cons (pv 0) (pa_cons (pv 1) pa_nil))) pa_nil)) pe_int (by rfl)))))))), ?_⟩
    refine ⟨_, rfl, n, rfl, n1, n16, ?_⟩
    refine ⟨_, rfl, _, rfl, n, a, es, rfl, hW.at, hW.lst, hA, hI, fun H1 s1 => ?_⟩
    obtain ⟨ts, hL, hP⟩ := hW.same s1
    refine ⟨_, rfl, a, _, rfl, .inl (sqL_of hL), _, rfl, n, 1, rfl, rfl, rfl, _, rfl, ?_⟩
    have e1 : decide (V.int ((ts.map V.ref).length : Nat) = V.int (n - 1)) = decide ((es.length : Int) = n - 1) := by
      rw [List.length_map, hP.length]
      exact decide_eq_decide.mpr ⟨V.int.inj, congrArg V.int⟩
    show if decide (V.int ((ts.map V.ref).length : Nat) = V.int (n - 1)) = true then _ else _
    rw [e1]
    refine ite2 (fun c => ?_) (fun c => ?_)
    · refine ⟨_, rfl, _, rfl, n, a, es, rfl, (hW.same s1).at, by omega, n16, hI, fun H2 p as s2 np na hLL => ?_⟩
      refine ⟨p, _, rfl, .inl (sqL_of hLL.1), rfl, ?_⟩
      have e2 : V.bl (decide (V.int ((as.map V.ref).length : Nat) = V.int 1)) = V.bl (treeB n es) := by
        unfold treeB
        rw [c, Bool.true_and, List.length_map, hLL.2.length]
        refine congrArg V.bl (decide_eq_decide.mpr ⟨fun z => ?_, fun z => ?_⟩)
        · have := V.int.inj z
          omega
        · rw [z] <;> rfl
      show Q (V.bl (decide (V.int ((as.map V.ref).length : Nat) = V.int 1))) H2
      rw [e2]
      exact q _ (s1.trans s2)
    · have e2 : treeB n es = false := by
        unfold treeB
        rw [Bool.eq_false_iff.mpr c, Bool.false_and]
      rw [← e2]
      exact q _ s1
/-! ### the law's own pieces -/
def spLPcs : Sp := fun vs H Q _ => ∃ (n : Int) (a : Addr) (es : List (Int × Int)), vs = [.int n, .ref a] ∧ WebL H a es ∧ 1 ≤ n ∧ n ≤ 16 ∧ Inb n es ∧
  ∀ (H' : Hp) (p : Addr) (as : List Addr), Same H H' → H p = none → (∀ b ∈ as, H b = none) → LLAt H' p as (pcsF n es) → Q (.ref p) H'
theorem flat_snoc {α β : Type} (f : α → List β) (l : List α) (x : α) : (l ++ [x]).flatMap f = l.flatMap f ++ f x := by
  rw [List.flatMap_append, List.flatMap_cons, List.flatMap_nil, List.append_nil]
theorem ok_l_pieces {f : Addr} {fd : FuncData} {k : Nat} (F : Fun K "_law_pieces" "_law_pieces" s_l_pieces f fd) (T : Txt mg) : FnOk P w K mg base CX0 (k + 1) f fd ["_law_size", "_law_some"] spLPcs := by
  refine F.ok sc_l_pieces (fun vs H Q E h => ?_) (fun cdv A outer s H vs Q E hr h => ?_)
  · obtain ⟨n, a, es, rfl, _⟩ := h
    rfl
  · obtain ⟨n, a, es, rfl, ⟨ts, hS, hP⟩, n1, n16, hI, q⟩ := h
    refine ⟨_, (pss_cons (ps_set (i := 2) sc_l_pieces.nd rfl (by first | exact Or.inl rfl | exact Or.inr rfl) (pe_listRg rfl (by rfl) T.n_list (prg_1 (by rfl) T.n_range (pe_op op_add (pv 0) pe_int))))
      (pss_cons (ps_for PassesOwn.never rfl (pi_list (pv 1)) (pg_tup rfl (pgs_cons (pg_name (i := 3) sc_l_pieces.nd rfl (by first | exact Or.inl rfl | exact Or.inr rfl)) (pgs_cons (pg_name (i := 4) sc_l_pieces.nd rfl (by first | exact Or.inl rfl | exact Or.inr rfl)) pgs_nil))) (pss_one (ps_set (i := 2) sc_l_pieces.nd rfl (by first | exact Or.inl rfl | exact Or.inr rfl) (pe_lc (own := [("_law_mark", 8)]) rfl sc_l_pieces.nd (pi_list (pv 2)) (blkOk_by (by kernel_rfl)) (fun _ _ _ _ _ => (pg_name (i := 8) sc_l_pieces.nd rfl (by first | exact Or.inl rfl | exact Or.inr rfl))) (fun _ _ _ _ _ => pts_nil) (fun _ _ _ _ _ => (pe_ifExp (pt_cmpR op_eq (pv 8) (pe_ix (r := rIxL K) ix_list (pv 2) (pv 4) (fun _ _ => rfl)) (by rfl)) (pe_ix (r := rIxL K) ix_list (pv 2) (pv 3) (fun _ _ => rfl)) (pv 8)))))))
      (pss_cons (ps_set (i := 5) sc_l_pieces.nd rfl (by first | exact Or.inl rfl | exact Or.inr rfl) (pe_lst pa_nil))
      (pss_cons (ps_for PassesOwn.never rfl (pi_range2 (by rfl) T.n_range (pa_cons pe_int (pa_cons (pe_op op_add (pv 0) pe_int) pa_nil))) (pg_name (i := 6) sc_l_pieces.nd rfl (by first | exact Or.inl rfl | exact Or.inr rfl)) (pss_cons (ps_setLc (i := 7) (own := [("_law_other", 9)]) rfl sc_l_pieces.nd rfl rfl (sw_true rfl rfl rfl (by decide +kernel)) (pi_range2 (by rfl) T.n_range (pa_cons pe_int (pa_cons (pe_op op_add (pv 0) pe_int) pa_nil))) (blkOk_by (by kernel_rfl)) (fun _ _ _ _ _ => (pg_name (i := 9) sc_l_pieces.nd rfl (by first | exact Or.inl rfl | exact Or.inr rfl))) (fun _ _ _ _ _ => (pts_one (pt_cmpR op_eq (pe_ix (r := rIxL K) ix_list (pv 2) (pv 9) (fun _ _ => rfl)) (pe_ix (r := rIxL K) ix_list (pv 2) (pv 6) (fun _ _ => rfl)) (by rfl)))) (fun _ _ _ _ _ => (pv 9)))
        (pss_one (ps_set (i := 5) sc_l_pieces.nd rfl (by first | exact Or.inl rfl | exact Or.inr rfl) (pe_op op_cat (pv 5) (pe_op op_rep (pe_lst (pa_cons (pv 7) pa_nil)) (pe_callTy call_int1 (by rfl) T.n_int (by decide +kernel) (pa_cons (pe_cmpR op_eq (pe_ix ix_list (pv 7) pe_int (fun _ _ => rfl)) (pv 6) (by rfl)) pa_nil))))))))
      (pss_one (ps_ret (pv 5))))))), ?_⟩
    refine ⟨_, rfl, n, 1, rfl, rfl, n + 1, rfl, .of_le (by omega) (by omega) (by omega) (by omega), fun l nl => ?_⟩
    have s0 : Same H (upd H l (.lst (rgV 0 (n + 1)))) := same_upd nl
    refine ⟨_, rfl, a, rfl, ⟨_, sqL_of (s0 _ _ hS)⟩, for_list (K := K) (a := a) (xs := ts.map V.ref) (fun i σ H' => ∃ (l : Addr) (v3 v4 v5 v6 v7 v8 v9 : Option V), σ = [some (.int n), some (.ref a), some (.ref l), v3, v4, v5, v6, v7, v8, v9] ∧ Same H H' ∧ H l = none ∧
        H' l = some (.lst (((es.take i).foldl mStep (names0 n)).map V.int))) ⟨l, none, none, none, none, none, none, none, rfl, s0, nl, by rw [upd_same, rgV_names0]; rfl⟩ (fun i σ H' _ ⟨_, _, _, _, _, _, _, _, _, s1, _⟩ => sqL_of (s1 _ _ hS)) ?_ ?_⟩
    · rintro i x σ H1 hx ⟨l, v3, v4, v5, v6, v7, v8, v9, rfl, s1, nl, hl⟩
      rw [List.getElem?_map] at hx
      obtain ⟨t, ht, rfl⟩ := Option.map_eq_some_iff.mp hx
      obtain ⟨e, he, hte⟩ := hP.get ht
      obtain ⟨i1, i2, i3⟩ := hI e (List.mem_of_getElem? he)
      have hlen : ∀ (fs : List (Int × Int)) (nm : List Int), ((fs.foldl mStep nm).length : Int) = nm.length := by
        intro fs
        induction fs with
        | nil => intro nm; rfl
        | cons f fs ih =>
          intro nm
          rw [List.foldl_cons, ih]
          unfold mStep
          rw [List.length_map]
      have hL : (((es.take i).foldl mStep (names0 n)).length : Int) = n + 1 := by
        rw [hlen, names0_len]
        omega
      have hnext : (es.take (i + 1)).foldl mStep (names0 n) = mStep ((es.take i).foldl mStep (names0 n)) e := by
        rw [List.take_add_one, he, List.foldl_append] <;> rfl
      rw [hnext]
      generalize (es.take i).foldl mStep (names0 n) = nm at hl hL ⊢
      refine ⟨t, _, rfl, sqT_of (s1 _ _ hte), rfl, _, _, rfl, _, _, rfl, rfl, ?_⟩
      refine ⟨_, rfl, l, rfl, ⟨_, sqL_of hl⟩, fun D nD => ?_⟩
      have sD : Same H1 (upd H1 D (.lst [])) := same_upd nD
      refine lc_list (K := K) (a := l) (xs := nm.map V.int) (fun j H' => Same H1 H' ∧ H' D = some (.lst (((nm.take j).map fun x => if x = nAt nm e.2 then nAt nm e.1 else x).map V.int)))
        ⟨sD, upd_same⟩ (fun j H' _ ⟨s2, _⟩ => sqL_of (s2 _ _ hl)) ?_ ?_
      · rintro j y H2 hy ⟨s2, hD⟩
        rw [List.getElem?_map] at hy
        obtain ⟨x, hx, rfl⟩ := Option.map_eq_some_iff.mp hy
        refine ⟨rfl, yes (iteT ?_)⟩
        have fin : ∀ z : Int, z = (if x = nAt nm e.2 then nAt nm e.1 else x) →
            ∃ acc, H2 D = some (.lst acc) ∧ acc.length < sizeLine ∧ Same H1 (upd H2 D (.lst (acc ++ [V.int z]))) ∧ (upd H2 D (.lst (acc ++ [V.int z]))) D = some (.lst (((nm.take (j + 1)).map fun x => if x = nAt nm e.2 then nAt nm e.1 else x).map V.int)) := by
          intro z hz
          refine ⟨_, hD, ?_, Same.mut s2 nD, ?_⟩
          · rw [List.length_map, List.length_map, List.length_take]
            exact Nat.lt_of_le_of_lt (Nat.min_le_right _ _) (small1000 (by omega))
          · rw [upd_same, List.take_add_one, hx, List.map_append, List.map_append, hz] <;> rfl
        have hl2 := s2 _ _ hl
        refine ⟨_, rfl, _, rfl, _, rfl, l, _, e.2, _, rfl, rfl, sqL_of hl2, atI_names (by omega) (by omega), rfl, _, rfl, ite2 (fun c => ?_) (fun c => ?_)⟩
        · exact ⟨_, rfl, _, rfl, l, _, e.1, _, rfl, rfl, sqL_of hl2, atI_names (by omega) (by omega), fin _ (if_pos (c := x = nAt nm e.2) (V.int.inj (of_decide_eq_true c))).symm⟩
        · exact ⟨_, rfl, fin _ (if_neg (c := x = nAt nm e.2) fun z => c (decide_eq_true (congrArg V.int z))).symm⟩
      · rintro H2 ⟨s2, hD⟩
        have eT : nm.take (nm.map V.int).length = nm := by rw [List.length_map, List.take_length]
        rw [eT] at hD
        exact ⟨D, _, _, _, _, _, _, _, rfl, s1.trans s2, s1.free nD, hD⟩
    · rintro σ H1 ⟨l, v3, v4, v5, v6, v7, v8, v9, rfl, s1, nl, hl⟩
      have eT : es.take (ts.map V.ref).length = es := by rw [List.length_map, hP.length, List.take_length]
      rw [eT] at hl
      have hA : Alike n (namesF n es) (marksF n es) := Alike.all hI (Alike.zero (by omega))
      have hL : ((marksF n es).length : Int) = n + 1 := hA.l2
      have hl' : H1 l = some (.lst ((marksF n es).map V.int)) := hl
      clear hl
      have hq : ∀ (H' : Hp) (p : Addr) (as : List Addr), Same H H' → H p = none → (∀ b ∈ as, H b = none) → LLAt H' p as ((cs n).flatMap (lawOne n (marksF n es))) → Q (.ref p) H' := by
        rw [show (cs n).flatMap (lawOne n (marksF n es)) = pcsF n es from law_pcs (by omega) hI]
        exact q
      have hne : ∀ i : Int, 1 ≤ i → i ≤ n → cls n (marksF n es) (nAt (marksF n es) i) ≠ [] := fun i h1 h2 z => by
        have m : i ∈ cls n (marksF n es) (nAt (marksF n es) i) := List.mem_filter.mpr ⟨mem_cs.mpr ⟨h1, h2⟩, decide_eq_true rfl⟩
        rw [z] at m
        exact List.not_mem_nil m
      clear q hA
      generalize marksF n es = nm at hl' hL hq hne
      have en : (n + 1 - 1).toNat = n.toNat := by omega
      have cA : ∀ (i : Nat), i < n.toNat → (cs n).take (i + 1) = (cs n).take i ++ [1 + (i : Int)] := cs_take n
      have cL : ∀ i : Nat, ((cs n).take i).length ≤ 16 := fun i => by
        rw [List.length_take, cs_len]
        omega
      -- told = []
      refine ⟨Nat.zero_le _, fun R0 nR0 => ?_⟩
      have sR0 : Same H1 (upd H1 R0 (.lst [])) := same_upd nR0
      refine ⟨_, rfl, n, 1, rfl, rfl, 1, n + 1, rfl, by omega, ?_⟩
      refine for_range (lo := 1) (n := (n + 1 - 1).toNat) (fun i σ H' => ∃ (R : Addr) (as : List Addr) (v3 v4 v6 v7 v8 v9 : Option V), σ = [some (.int n), some (.ref a), some (.ref l), v3, v4, some (.ref R), v6, v7, v8, v9] ∧ Same H1 H' ∧ H1 R = none ∧ LLAt H' R as (((cs n).take i).flatMap (lawOne n nm)) ∧
          (∀ b ∈ as, H1 b = none) ∧ as.length ≤ i) ⟨R0, [], v3, v4, v6, v7, v8, v9, rfl, sR0, nR0, ⟨upd_same, .nil⟩, fun b hb => (List.not_mem_nil hb).elim, Nat.zero_le _⟩ ?_ ?_
      · rintro i σ H2 hi ⟨R, as, v3, v4, v6, v7, v8, v9, rfl, s2, nR, hLL, hF, hal⟩
        rw [en] at hi
        -- piece = [..]
        refine ⟨_, rfl, n, 1, rfl, rfl, 1, n + 1, rfl, by omega, fun D nD => ?_⟩
        refine lc_range (lo := 1) (n := (n + 1 - 1).toNat) (fun j H' => Same H2 H' ∧ H' D = some (.lst ((((cs n).take j).filter fun c => decide (nAt nm c = nAt nm (1 + (i : Int)))).map V.int))) ⟨same_upd nD, upd_same⟩ ?_ ?_
        · rintro j H3 hj ⟨s3, hD⟩
          rw [en] at hj
          have hl3 := s3 _ _ (s2 _ _ hl')
          refine ⟨rfl, _, rfl, _, rfl, l, _, 1 + (j : Int), _, rfl, rfl, sqL_of hl3, atI_names (by omega) (by omega), _, rfl, _, rfl, l, _, 1 + (i : Int), _, rfl, rfl, sqL_of hl3, atI_names (by omega) (by omega), rfl, _, rfl, ite2 (fun c => ?_) (fun c => ?_)⟩
          · refine ⟨_, rfl, _, hD, ?_, Same.mut s3 nD, ?_⟩
            · rw [List.length_map]
              exact Nat.lt_of_le_of_lt (Nat.le_trans (List.length_filter_le _ _) (cL j)) (small1000 (by omega))
            · rw [upd_same, cA j hj, List.filter_append, List.map_append, List.filter_cons, if_pos (decide_eq_true (V.int.inj (of_decide_eq_true c)))] <;> rfl
          · refine ⟨s3, ?_⟩
            rw [hD, cA j hj, List.filter_append, List.filter_cons, if_neg (by simpa using fun z => c (decide_eq_true (congrArg V.int z)))]
            simp
        · rintro H3 ⟨s3, hD⟩
          rw [en, show (cs n).take n.toNat = cs n by rw [← cs_len n, List.take_length]] at hD
          have hD' : H3 D = some (.lst ((cls n nm (nAt nm (1 + (i : Int)))).map V.int)) := hD
          clear hD
          have hone : lawOne n nm (1 + (i : Int)) = if (cls n nm (nAt nm (1 + (i : Int)))).getD 0 0 = 1 + (i : Int) then [cls n nm (nAt nm (1 + (i : Int)))] else [] := rfl
          have hne1 := hne (1 + (i : Int)) (by omega) (by omega)
          have hat : atI ((cls n nm (nAt nm (1 + (i : Int)))).map V.int) 0 = some (.int ((cls n nm (nAt nm (1 + (i : Int)))).getD 0 0)) := by
            cases hc : cls n nm (nAt nm (1 + (i : Int))) with
            | nil => exact absurd hc hne1
            | cons x xs => exact atI_nat (j := 0) rfl
          generalize cls n nm (nAt nm (1 + (i : Int))) = pc at hD' hone hne1 hat
          have hR3 := s3 _ _ hLL.1
          -- told + [piece] * int(piece[0] == k)
          refine ⟨_, rfl, _, rfl, ?_⟩
          refine ⟨by show 1 ≤ sizeLine; decide, fun L nL => ?_⟩
          have hD4 : (upd H3 L (.lst [.ref D])) D = some (.lst (pc.map V.int)) := same_upd nL _ _ hD'
          refine ⟨_, rfl, D, _, 0, _, rfl, rfl, sqL_of hD4, hat, _, rfl, rfl, .inr ⟨_, rfl, ?_⟩⟩
          generalize hk : decide (V.int (pc.getD 0 0) = V.int (1 + (i : Int))) = kb
          refine ⟨L, if kb = true then 1 else 0, _, rfl, rfl, upd_same, ?_, ?_, ?_, fun R2 nR2 => ?_⟩
          · split <;> decide
          · split <;> decide
          · show 1 * _ ≤ sizeLine
            split <;> decide
          · have s45 := (same_upd (o := .lst [.ref D]) nL).trans (same_upd (o := .lst (List.replicate (if kb = true then 1 else 0 : Int).toNat [V.ref D]).flatten) nR2)
            refine ⟨R, R2, _, _, rfl, rfl, s45 _ _ hR3, upd_same, ?_, fun M nM => ?_⟩
            · have h1 : ((List.replicate (if kb = true then 1 else 0 : Int).toNat [V.ref D]).flatten).length ≤ 1 := by
                split <;> simp
              rw [List.length_map]
              exact Nat.le_trans (Nat.add_le_add hal h1) (Nat.le_of_lt (small1000 (by omega)))
            · have s6 := s45.trans (same_upd (o := .lst (as.map V.ref ++ (List.replicate (if kb = true then 1 else 0 : Int).toNat [V.ref D]).flatten)) nM)
              have s36 := s3.trans s6
              have nM2 : H2 M = none := s3.free (s45.free nM)
              cases kb with
              | false =>
                refine ⟨M, as, v3, v4, _, _, v8, v9, rfl, s2.trans s36, s2.free nM2, ⟨?_, ?_⟩, hF, by omega⟩
                · rw [upd_same]
                  simp
                · rw [cA i hi, flat_snoc, hone, if_neg fun z => (of_decide_eq_false hk) (congrArg V.int z), List.append_nil]
                  exact hLL.2.keep fun b _ o e => s36 _ _ e
              | true =>
                refine ⟨M, as ++ [D], v3, v4, _, _, v8, v9, rfl, s2.trans s36, s2.free nM2, ⟨?_, ?_⟩, ?_, ?_⟩
                · rw [upd_same, map_snoc]
                  simp
                · rw [cA i hi, flat_snoc, hone, if_pos (V.int.inj (of_decide_eq_true hk))]
                  exact (hLL.2.keep fun b _ o e => s36 _ _ e).append (.cons (s6 _ _ hD') .nil)
                · intro b hb
                  rcases List.mem_append.mp hb with hb | hb
                  · exact hF b hb
                  · rw [List.mem_singleton.mp hb]
                    exact s2.free nD
                · rw [List.length_append]
                  exact Nat.succ_le_succ hal
      · rintro σ H2 ⟨R, as, v3, v4, v6, v7, v8, v9, rfl, s2, nR, hLL, hF, hal⟩
        rw [en, show (cs n).take n.toNat = cs n by rw [← cs_len n, List.take_length]] at hLL
        exact ⟨_, rfl, hq H2 R as (s1.trans s2) (s1.free nR) (fun b hb => s1.free (hF b hb)) hLL⟩
end
end Un

set_option maxRecDepth 100000
set_option maxHeartbeats 8000000
namespace Un
open PySem PySem.Spec PyProof.Rows L2
def everyRow (n a : Int) : List (Int × Int) := (List.range (n - a).toNat).map fun (j : Nat) => (a, a + 1 + (j : Int))
def everyF (n : Int) : List (Int × Int) := (cs n).flatMap (everyRow n)
theorem LLAt.out {H : Hp} {p : Addr} {as : List Addr} {xss : List (List Int)} (h : LLAt H p as xss) : p ∉ as := by
  intro hb
  obtain ⟨xs, _, e1⟩ := h.2.mem hb
  rw [h.1] at e1
  have e2 := HO.lst.inj (Option.some.inj e1)
  cases as with
  | nil => exact List.not_mem_nil hb
  | cons c cs' =>
    cases xs with
    | nil => cases e2
    | cons z zs => cases e2
theorem str_ne {x : PySem.Str} : V.bl (!decide (V.str x = V.str x)) = V.bl false := by simp
theorem str_eq {x : PySem.Str} : V.bl (decide (V.str x = V.str x)) = V.bl true := by simp
theorem dp2 {K : PySem.W.Frag} {H : Hp} {L p q : Addr} {d e : PyData} (h : H L = some (.lst [.ref p, .ref q])) (h1 : Dp K H (.ref p) d) (h2 : Dp K H (.ref q) e) : Dp K H (.ref L) (.list [d, e]) := .lst (sqL_of h) (.cons h1 (.cons h2 .nil))
theorem fine2 {D m : Nat} {d : PyData} (h : Fine D m d) : Fine (D + 1) (2 * (m + 1)) (.list [d, d]) := Fine.list (fun e he => by
  rcases List.mem_cons.mp he with rfl | he
  · exact h
  · rw [List.mem_singleton.mp he]
    exact h) (Nat.le_refl _)
theorem fine_pcs {n : Int} (n16 : n ≤ 16) (es : List (Int × Int)) : Fine 2 (16 * 17) (dLL (pcsF n es)) := by
  obtain ⟨h1, h2⟩ := pcsF_small (n := n) (es := es)
  refine fine_LL (L := 16) (M := 16) (fun xs hx => ⟨fun c hc => ?_, ?_⟩) (by omega)
  · have := (h2 xs hx).2 c hc
    omega
  · have := (h2 xs hx).1
    omega
theorem fine_web {n : Int} (n16 : n ≤ 16) {es : List (Int × Int)} (hI : Inb n es) (hl : es.length ≤ 200) : Fine 2 600 (dW es) := by
  refine fine_W (L := 200) (fun e he => ?_) hl
  obtain ⟨h1, h2, h3⟩ := hI e he
  omega
section
variable {P : Program} {w : World} {K : PySem.W.Frag} {mg : Str → Option Value} {base : Heap}
def spEvery : Sp := fun vs H Q _ => ∃ n : Int, vs = [.int n] ∧ 1 ≤ n ∧ n ≤ 16 ∧ ∀ (H' : Hp) (p : Addr), Same H H' → H p = none → WebL H' p (everyF n) → Q (.ref p) H'
theorem everyRow_len {n a : Int} (h1 : 1 ≤ a) (h2 : n ≤ 16) : (everyRow n a).length ≤ 16 := by
  unfold everyRow
  rw [List.length_map, List.length_range]
  omega
theorem ok_l_every {f : Addr} {fd : FuncData} {k : Nat} (F : Fun K "_law_every" "_law_every" s_l_every f fd) (T : Txt mg) : FnOk P w K mg base CX0 (k + 1) f fd ["_law_size"] spEvery := by
  refine F.ok sc_l_every (fun vs H Q E h => ?_) (fun cdv A outer s H vs Q E hr h => ?_)
  · obtain ⟨n, rfl, _⟩ := h
    rfl
  · obtain ⟨n, rfl, n1, n16, q⟩ := h
    refine ⟨_, (pss_cons (ps_set (i := 1) sc_l_every.nd rfl (by first | exact Or.inl rfl | exact Or.inr rfl) (pe_lst pa_nil))
      (pss_cons (ps_for PassesOwn.never rfl (pi_range2 (by rfl) T.n_range (pa_cons pe_int (pa_cons (pe_op op_add (pv 0) pe_int) pa_nil))) (pg_name (i := 2) sc_l_every.nd rfl (by first | exact Or.inl rfl | exact Or.inr rfl)) (pss_one (ps_set (i := 1) sc_l_every.nd rfl (by first | exact Or.inl rfl | exact Or.inr rfl) (pe_op op_cat (pv 1) (pe_lc (own := [("_law_two", 3)]) rfl sc_l_every.nd (pi_range2 (by rfl) T.n_range (pa_cons (pe_op op_add (pv 2) pe_int) (pa_cons (pe_op op_add (pv 0) pe_int) pa_nil))) (blkOk_by (by kernel_rfl)) (fun _ _ _ _ _ => (pg_name (i := 3) sc_l_every.nd rfl (by first | exact Or.inl rfl | exact Or.inr rfl))) (fun _ _ _ _ _ => pts_nil) (fun _ _ _ _ _ => (pe_tup (pa_cons (pv 2) (pa_cons (pv 3) pa_nil)))))))))
      (pss_one (ps_ret (pv 1))))), ?_⟩
    refine ⟨Nat.zero_le _, fun R0 nR0 => ?_⟩
    refine ⟨_, rfl, n, 1, rfl, rfl, 1, n + 1, rfl, by omega, ?_⟩
    have en : (n + 1 - 1).toNat = n.toNat := by omega
    refine for_range (lo := 1) (n := (n + 1 - 1).toNat) (fun i σ H' => ∃ (R : Addr) (v2 v3 : Option V), σ = [some (.int n), some (.ref R), v2, v3] ∧ Same H H' ∧ H R = none ∧ WebL H' R (((cs n).take i).flatMap (everyRow n)) ∧ (((cs n).take i).flatMap (everyRow n)).length ≤ 16 * i)
      ⟨R0, none, none, rfl, same_upd nR0, nR0, ⟨[], upd_same, .nil⟩, Nat.zero_le _⟩ ?_ ?_
    · rintro i σ H1 hi ⟨R, v2, v3, rfl, s1, nR, ⟨ts, hR, hP⟩, hlen⟩
      rw [en] at hi
      rw [cs_take n i hi, flat_snoc]
      have hrow := everyRow_len (n := n) (a := 1 + (i : Int)) (by omega) n16
      generalize ((cs n).take i).flatMap (everyRow n) = fs at hP hlen ⊢
      have ha : 1 ≤ 1 + (i : Int) ∧ 1 + (i : Int) ≤ n := by omega
      generalize 1 + (i : Int) = a at hrow ha ⊢
      refine ⟨_, rfl, ?_⟩
      refine ⟨_, rfl, a, 1, rfl, rfl, _, rfl, n, 1, rfl, rfl, a + 1, n + 1, rfl, by omega, fun D nD => ?_⟩
      have em : (n + 1 - (a + 1)).toNat = (n - a).toNat := by omega
      refine lc_range (lo := a + 1) (n := (n + 1 - (a + 1)).toNat) (fun j H' => ∃ us : List Addr, Same H1 H' ∧ H' D = some (.lst (us.map V.ref)) ∧ Prs H' us ((everyRow n a).take j)) ⟨[], same_upd nD, upd_same, .nil⟩ ?_ ?_
      · rintro j H2 hj ⟨us, s2, hD, hU⟩
        rw [em] at hj
        refine ⟨rfl, yes (iteT ?_)⟩
        refine ⟨_, rfl, _, rfl, (by show 2 ≤ sizeLine; decide), fun t nt => ?_⟩
        have s3 := same_upd (o := .tup [.int a, .int (a + 1 + (j : Int))]) nt
        have g : (everyRow n a)[j]? = some (a, a + 1 + (j : Int)) := by
          unfold everyRow
          rw [List.getElem?_map, List.getElem?_range hj] <;> rfl
        have hul : us.length ≤ 16 := by
          rw [hU.length, List.length_take]
          omega
        refine ⟨_, s3 _ _ hD, by rw [List.length_map]; exact small1000 (by omega), us ++ [t], Same.mut (s2.trans s3) nD, ?_, ?_⟩
        · rw [upd_same, map_snoc]
        · rw [List.take_add_one, g]
          have hD3 := s3 _ _ hD
          exact (Prs.snoc (hU.keep fun b xs e => s3 _ _ e) upd_same).upd (fun xs z => by rw [hD3] at z; cases z)
      · rintro H2 ⟨us, s2, hD, hU⟩
        have eT : (everyRow n a).take (n + 1 - (a + 1)).toNat = everyRow n a := by
          refine List.take_of_length_le ?_
          unfold everyRow
          rw [List.length_map, List.length_range]
          omega
        rw [eT] at hU
        refine ⟨R, D, _, _, rfl, rfl, s2 _ _ hR, hD, ?_, fun M nM => ?_⟩
        · rw [List.length_map, List.length_map, hP.length, hU.length]
          exact Nat.le_of_lt (small1000 (by omega))
        · have s3 := s2.trans (same_upd (o := .lst (ts.map V.ref ++ us.map V.ref)) nM)
          refine ⟨M, _, _, rfl, s1.trans s3, s1.free (s2.free nM), ⟨ts ++ us, ?_, ?_⟩, ?_⟩
          · rw [upd_same, List.map_append]
          · exact (hP.keep fun b xs e => s3 _ _ e).append (hU.keep fun b xs e => same_upd nM _ _ e)
          · rw [List.length_append]
            omega
    · rintro σ H1 ⟨R, v2, v3, rfl, s1, nR, hW, hlen⟩
      rw [en, show (cs n).take n.toNat = cs n by rw [← cs_len n, List.take_length]] at hW
      exact ⟨_, rfl, q H1 R s1 nR hW⟩
end
end Un

set_option maxRecDepth 100000
set_option maxHeartbeats 8000000
namespace Un
open PySem PySem.Spec PyProof.Rows L2
section
variable {P : Program} {w : World} {K : PySem.W.Frag} {mg : Str → Option Value} {base : Heap}
structure RightCals (P : Program) (w : World) (K : PySem.W.Frag) (mg : Str → Option Value) (base : Heap) : Prop where
  lp : C8.Cal P w K mg base 1 "_law_pieces" spLPcs []
  pc : C8.Cal P w K mg base 5 "pieces" spPieces []
  pk : KCal P w K mg base 5 "pieces" spPieces ["web", "cells"] gSwap
  tr : C8.Cal P w K mg base 5 "is_tree" spIsTree []
  tk : KCal P w K mg base 5 "is_tree" spIsTree ["web", "cells"] gSwap
def spRight : Sp := fun vs H Q _ => ∃ (n : Int) (a : Addr) (es : List (Int × Int)), vs = [.int n, .ref a] ∧ WebL H a es ∧ 1 ≤ n ∧ n ≤ 16 ∧ Asc es ∧ Inb n es ∧ es.length ≤ 200 ∧ ∀ H' : Hp, Same H H' → Q (.bl true) H'
theorem ok_l_right {f : Addr} {fd : FuncData} (F : Fun K "_law_right" "_law_right" s_l_right f fd) (T : Txt mg) (C : RightCals P w K mg base) : FnG P w K mg base 6 f fd ["_law_size", "_law_some"] spRight := by
  refine fnG_ok F sc_l_right (fun vs H Q E h => ?_) (fun cdv A outer s H vs Q hg hr h => ?_)
  · obtain ⟨n, a, es, rfl, _⟩ := h
    rfl
  · obtain ⟨n, a, es, rfl, hW, n1, n16, hA, hI, hl, q⟩ := h
    refine ⟨_, (pss_cons (ps_set (i := 2) sc_l_right.nd rfl (by first | exact Or.inl rfl | exact Or.inr rfl) (pe_callB (call_reprD hg hr.units) (by rfl) T.n_repr (by decide +kernel) (pa_cons (pv 1) pa_nil)))
      (pss_cons (ps_set (i := 3) sc_l_right.nd rfl (by first | exact Or.inl rfl | exact Or.inr rfl) (C8.pe_c C.lp hr (by decide) (by rfl) (pa_cons (pv 0) (pa_cons (pv 1) pa_nil))))
      (pss_cons (ps_set (i := 4) sc_l_right.nd rfl (by first | exact Or.inl rfl | exact Or.inr rfl) (pe_lst (pa_cons (C8.pe_c C.pc hr (by decide) (by rfl) (pa_cons (pv 0) (pa_cons (pv 1) pa_nil))) (pa_cons (pe_kc C.pk hr (by decide) (by rfl) (pk_cons (pv 1) (pk_cons (pv 0) pk_nil))) pa_nil))))
      (pss_cons (ps_if (PW.pt (pw_or (pt_cmpR op_ne (pe_callB (call_reprD hg hr.units) (by rfl) T.n_repr (by decide +kernel) (pa_cons (pv 4) pa_nil)) (pe_callB (call_reprD hg hr.units) (by rfl) T.n_repr (by decide +kernel) (pa_cons (pe_lst (pa_cons (pv 3) (pa_cons (pv 3) pa_nil))) pa_nil)) (by rfl)) (pw_or1 (pt_cmpR op_ne (pe_callB (call_reprD hg hr.units) (by rfl) T.n_repr (by decide +kernel) (pa_cons (pv 1) pa_nil)) (pv 2) (by rfl))))) (pss_one (ps_ret pe_bl)) pss_nil)
      (pss_cons (ps_for PassesOwn.never rfl (pi_list (pe_ix ix_list (pv 4) pe_int (fun _ _ => rfl))) (pg_name (i := 5) sc_l_right.nd rfl (by first | exact Or.inl rfl | exact Or.inr rfl)) (pss_one (ps_expr (pe_bm PySem.F.plainAttrs_list PySem.F.slot_list_append PySem.F.type_list_append mt_append (pv 5) (pa_cons pe_non pa_nil)))))
      (pss_cons (ps_expr (pe_bm PySem.F.plainAttrs_list PySem.F.slot_list_append PySem.F.type_list_append mt_append (pe_ix ix_list (pv 4) pe_int (fun _ _ => rfl)) (pa_cons pe_non pa_nil)))
      (pss_cons (ps_set (i := 6) sc_l_right.nd rfl (by first | exact Or.inl rfl | exact Or.inr rfl) (pe_and (pe_cmpR op_eq (pe_callB call_len_seq (by rfl) T.n_len (by decide +kernel) (pa_cons (pv 3) pa_nil)) pe_int (by rfl)) (pe_one (pe_cmpR op_eq (pe_callB call_len_seq (by rfl) T.n_len (by decide +kernel) (pa_cons (pv 1) pa_nil)) (pe_op op_sub (pv 0) pe_int) (by rfl)))))
      (pss_cons (ps_if (pt_cmpR op_ne (pe_callB (call_reprD hg hr.units) (by rfl) T.n_repr (by decide +kernel) (pa_cons (pe_lst (pa_cons (C8.pe_c C.tr hr (by decide) (by rfl) (pa_cons (pv 0) (pa_cons (pv 1) pa_nil))) (pa_cons (pe_kc C.tk hr (by decide) (by rfl) (pk_cons (pv 1) (pk_cons (pv 0) pk_nil))) pa_nil))) pa_nil)) (pe_callB (call_reprD hg hr.units) (by rfl) T.n_repr (by decide +kernel) (pa_cons (pe_lst (pa_cons (pv 6) (pa_cons (pv 6) pa_nil))) pa_nil)) (by rfl)) (pss_one (ps_ret pe_bl)) pss_nil)
      (pss_one (ps_ret (pe_and (pe_cmpR op_eq (pe_callB (call_reprD hg hr.units) (by rfl) T.n_repr (by decide +kernel) (pa_cons (C8.pe_c C.pc hr (by decide) (by rfl) (pa_cons (pv 0) (pa_cons (pv 1) pa_nil))) pa_nil)) (pe_callB (call_reprD hg hr.units) (by rfl) T.n_repr (by decide +kernel) (pa_cons (pv 3) pa_nil)) (by rfl)) (pe_one (pe_cmpR op_eq (pe_callB (call_reprD hg hr.units) (by rfl) T.n_repr (by decide +kernel) (pa_cons (pv 1) pa_nil)) (pv 2) (by rfl)))))))))))))), ?_⟩
    have fW : Fine 2 600 (dW es) := fine_web n16 hI hl
    have fP := fine_pcs n16 es
    -- kept
    refine ⟨_, rfl, a, _, rfl, hW.at.dp, rOk fW, ?_⟩
    -- due
    refine ⟨_, rfl, _, rfl, n, a, es, rfl, hW, n1, n16, hI, fun H1 p as s1 np na hp => ?_⟩
    -- told
    refine ⟨_, rfl, _, rfl, n, a, es, rfl, hW.same s1, n1, n16, hA, hI, fun H2 p1 as1 s2 np1 na1 hp1 => ?_⟩
    refine ⟨_, rfl, _, rfl, rfl, n, a, es, rfl, (hW.same s1).same s2, n1, n16, hA, hI, fun H3 p2 as2 s3 np2 na2 hp2 => ?_⟩
    refine ⟨(by show 2 ≤ sizeLine; decide), fun T1 nT1 => ?_⟩
    have s4 := same_upd (o := .lst [.ref p1, .ref p2]) nT1
    have hT1 : (upd H3 T1 (.lst [.ref p1, .ref p2])) T1 = some (.lst [.ref p1, .ref p2]) := upd_same
    have w1 := hp1.same (s3.trans s4)
    have w2 := hp2.same s4
    have w0 := hp.same (s2.trans (s3.trans s4))
    have S04 : Same H (upd H3 T1 (.lst [.ref p1, .ref p2])) := s1.trans (s2.trans (s3.trans s4))
    have nT1' := s1.free (s2.free (s3.free nT1))
    have f1 : ∀ b ∈ as1, H b = none := fun b hb => s1.free (na1 b hb)
    have f1p : H p1 = none := s1.free np1
    have f2 : ∀ b ∈ as1, H1 b = none := na1
    generalize upd H3 T1 (.lst [.ref p1, .ref p2]) = H4 at s4 hT1 w1 w2 w0 S04 ⊢
    -- repr(told) != repr([due, due])
    refine ⟨_, rfl, T1, _, rfl, dp2 hT1 w1.dp w2.dp, rOk (fine2 fP), ?_⟩
    refine ⟨_, rfl, _, rfl, (by show 2 ≤ sizeLine; decide), fun L nL => ?_⟩
    have s5 := same_upd (o := .lst [.ref p, .ref p]) nL
    refine ⟨L, _, rfl, dp2 upd_same (w0.same s5).dp (w0.same s5).dp, rOk (fine2 fP), ?_⟩
    refine ⟨rfl, false, str_ne, iteF ?_⟩
    have S05 := S04.trans s5
    have hT5 := s5 _ _ hT1
    have w15 := w1.same s5
    have w05 := w0.same s5
    clear w2 hT1 w1 w0
    generalize upd H4 L (.lst [.ref p, .ref p]) = H5 at s5 S05 hT5 w15 w05 ⊢
    refine ⟨_, rfl, a, _, rfl, (hW.same S05).at.dp, rOk fW, ?_⟩
    refine ⟨_, rfl, rfl, false, str_ne, iteF ?_⟩
    -- for piece in told[0]
    have pout := w15.out
    refine ⟨_, rfl, T1, _, 0, .ref p1, rfl, rfl, sqL_of hT5, atI_nat (j := 0) rfl, p1, rfl, ⟨_, sqL_of w15.1⟩, ?_⟩
    refine for_list (K := K) (a := p1) (xs := as1.map V.ref) (fun i σ H' => ∃ v5 : Option V, σ = [some (.int n), some (.ref a), some (.str (dW es).shown), some (.ref p), some (.ref T1), v5, none] ∧ SameBut (· ∈ as1) H5 H' ∧
        ∀ b ∈ as1, ∃ xs, H' b = some (.lst xs) ∧ xs.length ≤ 100 + i) ⟨none, rfl, SameBut.refl _ _, ?_⟩ (fun i σ H' _ ⟨_, _, b1, _⟩ => sqL_of (b1 _ _ pout w15.1)) ?_ ?_
    · intro b hb
      obtain ⟨xs, m, e⟩ := w15.2.mem hb
      refine ⟨_, e, ?_⟩
      have := (pcsF_small.2 xs m).1
      rw [List.length_map]
      omega
    · rintro i x σ H6 hx ⟨v5, rfl, b6, hx6⟩
      have hi : i < as1.length := by
        have := (List.getElem?_eq_some_iff.mp hx).1
        rw [List.length_map] at this
        exact this
      have hlen1 : as1.length ≤ 16 := by
        rw [w15.2.length]
        exact Nat.le_trans pcsF_small.1 (by omega)
      rw [List.getElem?_map] at hx
      obtain ⟨b, hb, rfl⟩ := Option.map_eq_some_iff.mp hx
      have mb : b ∈ as1 := List.mem_of_getElem? hb
      obtain ⟨xs, e, hxl⟩ := hx6 b mb
      refine ⟨_, rfl, .inl ⟨rfl, _, sqL_of e⟩, b, _, .non, rfl, rfl, e, small1000 (by omega) |> Nat.lt_of_le_of_lt (Nat.le_refl _), ?_⟩
      refine ⟨_, rfl, b6.mut mb, fun c hc => ?_⟩
      by_cases z : c = b
      · subst z
        exact ⟨_, upd_same, by rw [List.length_append]; exact Nat.succ_le_succ hxl⟩
      · obtain ⟨ys, e2, h2⟩ := hx6 c hc
        exact ⟨ys, by rw [upd_ne z]; exact e2, by omega⟩
    · rintro σ H6 ⟨v5, rfl, b6, _⟩
      have T1n : T1 ∉ as1 := fun m => by
        obtain ⟨xs, _, e⟩ := hp1.2.mem m
        rw [s3 _ _ e] at nT1
        cases nT1
      have p1d : H2 p1 ≠ none := by
        rw [hp1.1]
        exact fun z => nomatch z
      have hT6 := b6 _ _ T1n hT5
      have hp6 := b6 _ _ pout w15.1
      refine ⟨_, rfl, T1, _, 0, .ref p1, rfl, rfl, sqL_of hT6, atI_nat (j := 0) rfl, .inl ⟨rfl, _, sqL_of hp6⟩, p1, _, .non, rfl, rfl, hp6, ?_, ?_⟩
      · rw [List.length_map, w15.2.length]
        have := (pcsF_small (n := n) (es := es)).1
        exact small1000 (by omega)
      have b7 : SameBut (fun b => b ∈ as1 ∨ b = p1) H5 (upd H6 p1 (.lst (as1.map V.ref ++ [.non]))) := SameBut.mut (fun b o z e => b6 b o (fun m => z (.inl m)) e) (.inr rfl)
      generalize upd H6 p1 (.lst (as1.map V.ref ++ [.non])) = H7 at b7 ⊢
      have notS : ∀ b o, H1 b = some o → ¬ (b ∈ as1 ∨ b = p1) := fun b o e z => by
        rcases z with z | z
        · rw [f2 b z] at e
          cases e
        · rw [z, np1] at e
          cases e
      have S07 : Same H H7 := fun b o e => b7 b o (notS b o (s1 _ _ e)) (S05 b o e)
      have w07 : LLAt H7 p as (pcsF n es) := w05.but b7 (notS _ _ hp.1) (fun b hb => by
        obtain ⟨xs, _, e⟩ := hp.2.mem hb
        exact notS _ _ e)
      -- flag
      obtain ⟨ts, hL7, hP7⟩ := hW.same S07
      refine ⟨_, rfl, p, _, rfl, .inl (sqL_of w07.1), rfl, _, rfl, ?_⟩
      refine and_via (treeB n es) ?_ (fun c => ?_) (fun c key => ?_)
      rotate_left
      · unfold treeB
        rw [List.length_map, w07.2.length] at c
        have c2 : ¬ ((pcsF n es).length = 1) := fun z => (of_decide_eq_false c) (by rw [z] <;> rfl)
        rw [decide_eq_false c2, Bool.and_false]
      · refine ⟨_, rfl, a, _, rfl, .inl (sqL_of hL7), _, rfl, n, 1, rfl, rfl, rfl, ?_⟩
        rw [List.length_map, w07.2.length] at c
        have c2 : (pcsF n es).length = 1 := by
          have := V.int.inj (of_decide_eq_true c)
          omega
        have e : V.bl (decide (V.int ((ts.map V.ref).length : Nat) = V.int (n - 1))) = V.bl (treeB n es) := by
          unfold treeB
          rw [decide_eq_true c2, Bool.and_true, List.length_map, hP7.length]
          exact congrArg V.bl (decide_eq_decide.mpr ⟨V.int.inj, congrArg V.int⟩)
        dsimp only
        rw [e]
        exact key
      -- is_tree
      refine ⟨_, rfl, _, rfl, n, a, es, rfl, hW.same S07, n1, n16, hA, hI, fun H8 s8 => ?_⟩
      refine ⟨_, rfl, _, rfl, rfl, n, a, es, rfl, (hW.same S07).same s8, n1, n16, hA, hI, fun H9 s9 => ?_⟩
      refine ⟨(by show 2 ≤ sizeLine; decide), fun L1 nL1 => ?_⟩
      have s10 := same_upd (o := .lst [.bl (treeB n es), .bl (treeB n es)]) nL1
      have fB : Fine 1 2 (.list [.bool (treeB n es), .bool (treeB n es)]) := (fine2 (Fine.bool (treeB n es))).mono (Nat.le_refl _) (by decide)
      refine ⟨L1, _, rfl, .lst (sqL_of upd_same) (.cons (.bl _) (.cons (.bl _) .nil)), rOk fB, ?_⟩
      refine ⟨_, rfl, _, rfl, (by show 2 ≤ sizeLine; decide), fun L2 nL2 => ?_⟩
      have s11 := same_upd (o := .lst [.bl (treeB n es), .bl (treeB n es)]) nL2
      refine ⟨L2, _, rfl, .lst (sqL_of upd_same) (.cons (.bl _) (.cons (.bl _) .nil)), rOk fB, rfl, false, str_ne, iteF ?_⟩
      have S7e := s8.trans (s9.trans (s10.trans s11))
      have S0e := S07.trans S7e
      have w0e := w07.same S7e
      generalize upd (upd H9 L1 (.lst [.bl (treeB n es), .bl (treeB n es)])) L2 (.lst [.bl (treeB n es), .bl (treeB n es)]) = He at S7e S0e w0e ⊢
      -- the end
      refine ⟨_, rfl, _, rfl, n, a, es, rfl, hW.same S0e, n1, n16, hA, hI, fun H12 p3 as3 s12 np3 na3 hp3 => ?_⟩
      refine ⟨p3, _, rfl, hp3.dp, rOk fP, _, rfl, p, _, rfl, (w0e.same s12).dp, rOk fP, rfl, true, str_eq, iteT ?_⟩
      refine ⟨_, rfl, a, _, rfl, (hW.same (S0e.trans s12)).at.dp, rOk fW, _, rfl, rfl, ?_⟩
      show Q (V.bl (decide (V.str (dW es).shown = V.str (dW es).shown))) H12
      rw [str_eq]
      exact q _ (S0e.trans s12)
end
end Un

set_option maxRecDepth 100000
set_option maxHeartbeats 8000000
namespace Un
open PySem PySem.Spec PyProof.Rows L2
theorem cut_to (xs : List V) (k : Nat) : cutV xs none (some (k : Int)) = xs.take k := by
  unfold cutV
  rw [HT.sIx_none, HT.sIx_nat xs.length xs.length k, List.drop_zero, Nat.sub_zero]
  by_cases h : k ≤ xs.length
  · rw [Nat.min_eq_left h]
  · rw [Nat.min_eq_right (by omega), List.take_length, List.take_of_length_le (by omega)]
theorem Prs.take {H : Hp} : ∀ (k : Nat) {ts : List Addr} {es : List (Int × Int)}, Prs H ts es → Prs H (ts.take k) (es.take k)
  | 0, _, _, _ => .nil
  | _ + 1, _, _, .nil => .nil
  | k + 1, _, _, .cons r q => .cons r (Prs.take k q)
theorem every_ok : Asc (everyF 16) ∧ Inb 16 (everyF 16) ∧ (everyF 16).length ≤ 200 := by
  unfold Asc Inb Lt2
  decide +kernel
section
variable {P : Program} {w : World} {K : PySem.W.Frag} {mg : Str → Option Value} {base : Heap}
structure LawCals (P : Program) (w : World) (K : PySem.W.Frag) (mg : Str → Option Value) (base : Heap) : Prop where
  dr : C8.Cal P w K mg base 1 "_law_draws" spDraws []
  wb : C8.Cal P w K mg base 2 "_law_web" spWeb []
  ev : C8.Cal P w K mg base 1 "_law_every" spEvery []
  rt : CalG P w K mg base 6 "_law_right" spRight
def spLaw (K : PySem.W.Frag) : Sp := fun vs H Q _ => ∃ (a : Addr) (ns : List Int), vs = [.ref a] ∧ SqL K H a (ns.map V.int) ∧ ns.length ≤ 63 ∧ ∀ H', Q (.bl true) H'
theorem ok_law {f : Addr} {fd : FuncData} (F : Fun K "law" "law" s_law f fd) (T : Txt mg) (C : LawCals P w K mg base) : FnG P w K mg base 7 f fd ["_law_script"] (spLaw K) := by
  refine fnG_ok F sc_law (fun vs H Q E h => ?_) (fun cdv A outer s H vs Q hg hr h => ?_)
  · obtain ⟨a, ns, rfl, _⟩ := h
    rfl
  · obtain ⟨a, ns, rfl, hS, hl, q⟩ := h
    refine ⟨_, (pss_cons (ps_for PassesOwn.never rfl (pi_list (pe_lc (own := [("_law_cell", 6)]) rfl sc_law.nd (pi_list (pe_op op_cat (pe_slice sl_list (pv 0) po_none (po_some pe_int)) (pe_lst (pa_cons pe_int pa_nil)))) (blkOk_by (by kernel_rfl)) (fun _ _ _ _ _ => (pg_name (i := 6) sc_law.nd rfl (by first | exact Or.inl rfl | exact Or.inr rfl))) (fun _ _ _ _ _ => pts_nil) (fun _ _ _ _ _ => (C8.pe_c C.dr hr (by decide) (by rfl) (pa_cons (pv 6) pa_nil))))) (pg_name (i := 1) sc_law.nd rfl (by first | exact Or.inl rfl | exact Or.inr rfl)) (pss_one (ps_for PassesOwn.never rfl (pi_range1 (by rfl) T.n_range (pa_cons pe_int pa_nil)) (pg_name (i := 2) sc_law.nd rfl (by first | exact Or.inl rfl | exact Or.inr rfl)) (pss_cons (ps_asg (C8.pe_c C.wb hr (by decide) (by rfl) (pa_cons (pv 1) (pa_cons pe_int (pa_cons pe_int pa_nil)))) (pg_tup rfl (pgs_cons (pg_name (i := 3) sc_law.nd rfl (by first | exact Or.inl rfl | exact Or.inr rfl)) (pgs_cons (pg_name (i := 4) sc_law.nd rfl (by first | exact Or.inl rfl | exact Or.inr rfl)) pgs_nil))))
          (pss_one (ps_if (pt_not (pt_val (pe_cG hg C.rt hr (by decide) (by rfl) (pa_cons (pv 3) (pa_cons (pv 4) pa_nil))))) (pss_one (ps_ret pe_bl)) pss_nil))))))
      (pss_cons (ps_set (i := 5) sc_law.nd rfl (by first | exact Or.inl rfl | exact Or.inr rfl) (C8.pe_c C.ev hr (by decide) (by rfl) (pa_cons pe_int pa_nil)))
      (pss_one (ps_ret (pe_and (pe_cG hg C.rt hr (by decide) (by rfl) (pa_cons pe_int (pa_cons (pv 5) pa_nil))) (pe_and (pe_cG hg C.rt hr (by decide) (by rfl) (pa_cons pe_int (pa_cons (pe_lst pa_nil) pa_nil))) (pe_and (pe_cG hg C.rt hr (by decide) (by rfl) (pa_cons pe_int (pa_cons (pe_lst pa_nil) pa_nil))) (pe_one (pe_cG hg C.rt hr (by decide) (by rfl) (pa_cons pe_int (pa_cons (pe_slice sl_list (pv 5) po_none (po_some pe_int)) pa_nil))))))))))), ?_⟩
    -- the list of the draws
    refine ⟨_, rfl, 6, rfl, a, _, rfl, hS, fun c nc => ?_⟩
    have s1 := same_upd (o := .lst (cutV (ns.map V.int) none (some 6))) nc
    refine ⟨(by show 1 ≤ sizeLine; decide), fun z nz => ?_⟩
    have s2 := same_upd (o := .lst [.int 0]) nz
    have hcl : (cutV (ns.map V.int) none (some 6)).length ≤ 63 := by
      refine Nat.le_trans (cutV_length _ _ _) ?_
      rw [List.length_map]
      exact hl
    have hci : ∀ x ∈ cutV (ns.map V.int) none (some 6) ++ [V.int 0], ∃ i, x = V.int i := by
      intro x hx
      rcases List.mem_append.mp hx with hx | hx
      · rw [show (some (6 : Int)) = some ((6 : Nat) : Int) from rfl, cut_to] at hx
        obtain ⟨i, _, rfl⟩ := List.mem_map.mp (List.mem_of_mem_take hx)
        exact ⟨i, rfl⟩
      · exact ⟨0, List.mem_singleton.mp hx⟩
    refine ⟨c, z, _, _, rfl, rfl, s2 _ _ upd_same, upd_same, ?_, fun l nl => ?_⟩
    · exact Nat.le_trans (Nat.add_le_add hcl (Nat.le_refl 1)) (by decide)
    have hl3 : (upd (upd (upd H c (.lst (cutV (ns.map V.int) none (some 6)))) z (.lst [.int 0])) l (.lst (cutV (ns.map V.int) none (some 6) ++ [V.int 0]))) l = some (.lst (cutV (ns.map V.int) none (some 6) ++ [V.int 0])) := upd_same
    have hlen : (cutV (ns.map V.int) none (some 6) ++ [V.int 0]).length ≤ 64 := by
      rw [List.length_append]
      exact Nat.succ_le_succ hcl
    generalize cutV (ns.map V.int) none (some 6) ++ [V.int 0] = cells at hci hlen hl3 ⊢
    generalize upd (upd (upd H c (.lst (cutV (ns.map V.int) none (some 6)))) z (.lst [.int 0])) l (.lst cells) = H0 at hl3 ⊢
    refine ⟨l, rfl, ⟨_, sqL_of hl3⟩, fun D nD => ?_⟩
    refine lc_list (K := K) (a := l) (xs := cells) (fun i H' => ∃ ds : List Addr, Same H0 H' ∧ H' D = some (.lst (ds.map V.ref)) ∧ ds.Nodup ∧ D ∉ ds ∧ ds.length ≤ i ∧ (∀ d ∈ ds, Drw H' d 0))
      ⟨[], same_upd nD, upd_same, List.nodup_nil, List.not_mem_nil, Nat.zero_le _, fun d hd => (List.not_mem_nil hd).elim⟩ (fun i H' _ ⟨_, s3, _⟩ => sqL_of (s3 _ _ hl3)) ?_ ?_
    · rintro i x H1 hx ⟨ds, s3, hD, nd, nDd, hdl, hdr⟩
      have hil : i < 64 := Nat.lt_of_lt_of_le (List.getElem?_eq_some_iff.mp hx).1 hlen
      obtain ⟨v, rfl⟩ := hci x (List.mem_of_getElem? hx)
      refine ⟨rfl, yes (iteT ?_)⟩
      refine ⟨_, rfl, v, rfl, fun H2 d s4 nd1 dr => ?_⟩
      have dD : d ≠ D := fun e => by
        rw [e, hD] at nd1
        cases nd1
      have dn : d ∉ ds := fun m => (hdr d m).is (H' := H1) nd1
      have keep : ∀ {d' : Addr} {k : Nat} {o : HO}, d' ≠ D → Drw H2 d' k → Drw (upd H2 D o) d' k := fun n h => h.keep fun o e => by
        rw [upd_ne n]
        exact e
      refine ⟨_, s4 _ _ hD, by rw [List.length_map]; exact small1000 (by omega), ds ++ [d], Same.mut (s3.trans s4) nD, ?_, ?_, ?_, ?_, ?_⟩
      · rw [upd_same, map_snoc]
      · exact List.nodup_append.mpr ⟨nd, by simp, fun a ha b hb => by
          rw [List.mem_singleton.mp hb]
          exact fun e => dn (e ▸ ha)⟩
      · intro m
        rcases List.mem_append.mp m with m | m
        · exact nDd m
        · exact dD (List.mem_singleton.mp m).symm
      · rw [List.length_append]
        exact Nat.succ_le_succ hdl
      · intro d' hd'
        rcases List.mem_append.mp hd' with m | m
        · exact keep (fun e => nDd (e ▸ m)) ((hdr d' m).keep fun o e => s4 _ _ e)
        · rw [List.mem_singleton.mp m]
          exact keep dD dr
    · rintro H1 ⟨ds, s3, hD, nd, nDd, hdl, hdr⟩
      refine ⟨D, rfl, ⟨_, sqL_of hD⟩, ?_⟩
      refine for_list (K := K) (a := D) (xs := ds.map V.ref) (fun i σ H' => ∃ v1 v2 v3 v4 : Option V, σ = [some (.ref a), v1, v2, v3, v4, none, none] ∧ SameBut (· ∈ ds) H1 H' ∧ ∀ (j : Nat) (d : Addr), i ≤ j → ds[j]? = some d → Drw H' d 0)
        ⟨none, none, none, none, rfl, SameBut.refl _ _, fun j d _ e => hdr d (List.mem_of_getElem? e)⟩ (fun i σ H' _ ⟨_, _, _, _, _, b, _⟩ => sqL_of (b _ _ nDd hD)) ?_ ?_
      · rintro i x σ H2 hx ⟨v1, v2, v3, v4, rfl, b2, hj⟩
        rw [List.getElem?_map] at hx
        obtain ⟨d, hd, rfl⟩ := Option.map_eq_some_iff.mp hx
        have md : d ∈ ds := List.mem_of_getElem? hd
        refine ⟨3, rfl, by decide, by decide, ?_⟩
        refine for_range (lo := 0) (n := 3) (fun t σ H' => ∃ v2 v3 v4 : Option V, σ = [some (.ref a), some (.ref d), v2, v3, v4, none, none] ∧ SameBut (· = d) H2 H' ∧ ∃ k, Drw H' d k ∧ k ≤ 50 * t)
          ⟨v2, v3, v4, rfl, SameBut.refl _ _, 0, hj i d (Nat.le_refl _) hd, Nat.zero_le _⟩ ?_ ?_
        · rintro t σ H3 ht ⟨v2, v3, v4, rfl, b3, k, dr, hk⟩
          refine ⟨_, rfl, d, 16, 9, k, rfl, dr, by omega, by decide, by decide, by decide, by decide, fun H4 tp wa n ts es k' b4 nt na et ea hP dr' hk' n1 n16 hel hA hI => ?_⟩
          refine ⟨tp, _, rfl, sqT_of et, rfl, _, _, rfl, _, _, rfl, rfl, ?_⟩
          refine ⟨_, rfl, _, rfl, n, wa, es, rfl, ⟨ts, ea, hP⟩, n1, n16, hA, hI, by omega, fun H5 s5 => ⟨true, rfl, iteF ?_⟩⟩
          refine ⟨_, _, _, rfl, (b3.trans b4).trans (Same.but s5), k', dr'.keep fun o e => s5 _ _ e, by omega⟩
        · rintro σ H3 ⟨v2, v3, v4, rfl, b3, k, dr, hk⟩
          refine ⟨_, _, _, _, rfl, b2.trans fun b o n e => b3 b o (fun z => n (z ▸ md)) e, fun j d' hij e => ?_⟩
          have dne : d' ≠ d := fun z => by
            have h1 := (List.getElem?_inj (i := j) (j := i) (List.getElem?_eq_some_iff.mp e).1 nd).mp (by rw [e, hd, z])
            omega
          exact (hj j d' (by omega) e).keep fun o e => b3 _ _ dne e
      · rintro σ H2 ⟨v1, v2, v3, v4, rfl, b2, _⟩
        obtain ⟨eA, eI, eL⟩ := every_ok
        refine ⟨16, rfl, by decide, by decide, fun H3 p s4 np hW => ?_⟩
        refine ⟨_, rfl, 16, p, _, rfl, hW, by decide, by decide, eA, eI, eL, fun H4 s5 => ⟨true, rfl, iteT ?_⟩⟩
        refine ⟨(by show 0 ≤ sizeLine; decide), fun L nL => ⟨16, L, [], rfl, ⟨[], upd_same, .nil⟩, by decide, by decide, List.Pairwise.nil, fun e he => (List.not_mem_nil he).elim, Nat.zero_le _, fun H5 s6 => ⟨true, rfl, iteT ?_⟩⟩⟩
        have s7 := s5.trans ((same_upd nL).trans s6)
        refine ⟨(by show 0 ≤ sizeLine; decide), fun L2 nL2 => ⟨1, L2, [], rfl, ⟨[], upd_same, .nil⟩, by decide, by decide, List.Pairwise.nil, fun e he => (List.not_mem_nil he).elim, Nat.zero_le _, fun H6 s8 => ⟨true, rfl, iteT ?_⟩⟩⟩
        have s9 := s7.trans ((same_upd nL2).trans s8)
        obtain ⟨ts, hp, hP⟩ := hW.same s9
        refine ⟨_, rfl, 15, rfl, p, _, rfl, sqL_of hp, fun S nS => ?_⟩
        have hcut : cutV (ts.map V.ref) none (some 15) = (ts.take 15).map V.ref := by
          rw [show (some (15 : Int)) = some ((15 : Nat) : Int) from rfl, cut_to, List.map_take]
        rw [hcut]
        have hP15 : Prs H6 (ts.take 15) ((everyF 16).take 15) := hP.take 15
        refine ⟨16, S, (everyF 16).take 15, rfl, ⟨ts.take 15, upd_same, hP15.keep fun t xs e => same_upd nS _ _ e⟩, by decide, by decide, ?_, fun e he => eI e (List.mem_of_mem_take he), ?_, fun H7 s10 => q _⟩
        · exact List.Pairwise.sublist (List.take_sublist _ _) eA
        · rw [List.length_take]
          omega
end
end Un

set_option maxRecDepth 100000
/-! ### what the top has written; the theorem -/
namespace Un
open PySem PySem.Spec PyProof.Rows L2
theorem all_mk {l : PySem.W.OpenLaw} {w : World} {K : PySem.W.Frag} {h : Heap} {mg : Str → Option Value} {fa : Addr} (X : K.In h) (G : h.Ns mainGlobals mg) (hfa : mg "law" = some (.ref fa))
    (d_is_whole : DefIn K "is_whole" s_is_whole)
    (d_is_cell : DefIn K "is_cell" s_is_cell)
    (d_is_exchange : DefIn K "is_exchange" s_is_exchange)
    (d_check_cells : DefIn K "check_cells" s_check_cells)
    (d_check_web : DefIn K "check_web" s_check_web)
    (d_pieces : DefIn K "pieces" s_pieces)
    (d_is_tree : DefIn K "is_tree" s_is_tree)
    (d_pieces_of : DefIn K "pieces_of" s_pieces_of)
    (d_l_draws : DefIn K "_law_draws" s_l_draws)
    (d_l_next : DefIn K "_law_next" s_l_next)
    (d_l_web : DefIn K "_law_web" s_l_web)
    (d_l_pieces : DefIn K "_law_pieces" s_l_pieces)
    (d_l_every : DefIn K "_law_every" s_l_every)
    (d_l_right : DefIn K "_law_right" s_l_right)
    (d_law : DefIn K "law" s_law)
    (z_int : PySem.W.nsIn K mainGlobals "int" = some none)
    (z_bool : PySem.W.nsIn K mainGlobals "bool" = some none)
    (z_tuple : PySem.W.nsIn K mainGlobals "tuple" = some none)
    (z_list : PySem.W.nsIn K mainGlobals "list" = some none)
    (z_isinstance : PySem.W.nsIn K mainGlobals "isinstance" = some none)
    (z_len : PySem.W.nsIn K mainGlobals "len" = some none)
    (z_enumerate : PySem.W.nsIn K mainGlobals "enumerate" = some none)
    (z_range : PySem.W.nsIn K mainGlobals "range" = some none)
    (z_min : PySem.W.nsIn K mainGlobals "min" = some none)
    (z_max : PySem.W.nsIn K mainGlobals "max" = some none)
    (z_sorted : PySem.W.nsIn K mainGlobals "sorted" = some none)
    (z_set : PySem.W.nsIn K mainGlobals "set" = some none)
    (z_repr : PySem.W.nsIn K mainGlobals "repr" = some none)
    {t_MOST_CELLS : Tok} (z_MOST_CELLS : PySem.W.nsIn K mainGlobals "MOST_CELLS" = some (some (.int 16 t_MOST_CELLS)))
    : ∃ fd : FuncData, (∀ (s : Shared) (v : Value), BindsTo s fd ⟨[v], []⟩ [("_law_script", v)]) ∧ ∀ base : Heap, K.In base → base.Ns mainGlobals mg → FnG l.prog w K mg base 7 fa fd ["_law_script"] (spLaw K) := by
  obtain ⟨f_is_whole, fd_is_whole, F_is_whole, m_is_whole⟩ := d_is_whole.fn X G
  obtain ⟨f_is_cell, fd_is_cell, F_is_cell, m_is_cell⟩ := d_is_cell.fn X G
  obtain ⟨f_is_exchange, fd_is_exchange, F_is_exchange, m_is_exchange⟩ := d_is_exchange.fn X G
  obtain ⟨f_check_cells, fd_check_cells, F_check_cells, m_check_cells⟩ := d_check_cells.fn X G
  obtain ⟨f_check_web, fd_check_web, F_check_web, m_check_web⟩ := d_check_web.fn X G
  obtain ⟨f_pieces, fd_pieces, F_pieces, m_pieces⟩ := d_pieces.fn X G
  obtain ⟨f_is_tree, fd_is_tree, F_is_tree, m_is_tree⟩ := d_is_tree.fn X G
  obtain ⟨f_pieces_of, fd_pieces_of, F_pieces_of, m_pieces_of⟩ := d_pieces_of.fn X G
  obtain ⟨f_l_draws, fd_l_draws, F_l_draws, m_l_draws⟩ := d_l_draws.fn X G
  obtain ⟨f_l_next, fd_l_next, F_l_next, m_l_next⟩ := d_l_next.fn X G
  obtain ⟨f_l_web, fd_l_web, F_l_web, m_l_web⟩ := d_l_web.fn X G
  obtain ⟨f_l_pieces, fd_l_pieces, F_l_pieces, m_l_pieces⟩ := d_l_pieces.fn X G
  obtain ⟨f_l_every, fd_l_every, F_l_every, m_l_every⟩ := d_l_every.fn X G
  obtain ⟨f_l_right, fd_l_right, F_l_right, m_l_right⟩ := d_l_right.fn X G
  obtain ⟨f_law, fd_law, F_law, m_law⟩ := d_law.fn X G
  have b_is_whole := F_is_whole.binds (ps := ["thing"]) fun _ _ _ _ _ _ us hl => match us, hl with | [_], _ => rfl
  have b_is_cell := F_is_cell.binds (ps := ["cells", "thing"]) fun _ _ _ _ _ _ us hl => match us, hl with | [_, _], _ => rfl
  have b_is_exchange := F_is_exchange.binds (ps := ["cells", "thing"]) fun _ _ _ _ _ _ us hl => match us, hl with | [_, _], _ => rfl
  have b_check_cells := F_check_cells.binds (ps := ["cells"]) fun _ _ _ _ _ _ us hl => match us, hl with | [_], _ => rfl
  have b_check_web := F_check_web.binds (ps := ["cells", "web"]) fun _ _ _ _ _ _ us hl => match us, hl with | [_, _], _ => rfl
  have b_pieces := F_pieces.binds (ps := ["cells", "web"]) fun _ _ _ _ _ _ us hl => match us, hl with | [_, _], _ => rfl
  have b_is_tree := F_is_tree.binds (ps := ["cells", "web"]) fun _ _ _ _ _ _ us hl => match us, hl with | [_, _], _ => rfl
  have b_pieces_of := F_pieces_of.binds (ps := ["cells", "web"]) fun _ _ _ _ _ _ us hl => match us, hl with | [_, _], _ => rfl
  have b_l_draws := F_l_draws.binds (ps := ["_law_cell"]) fun _ _ _ _ _ _ us hl => match us, hl with | [_], _ => rfl
  have b_l_next := F_l_next.binds (ps := ["_law_draws_here"]) fun _ _ _ _ _ _ us hl => match us, hl with | [_], _ => rfl
  have b_l_web := F_l_web.binds (ps := ["_law_draws_here", "_law_most", "_law_many"]) fun _ _ _ _ _ _ us hl => match us, hl with | [_, _, _], _ => rfl
  have b_l_pieces := F_l_pieces.binds (ps := ["_law_size", "_law_some"]) fun _ _ _ _ _ _ us hl => match us, hl with | [_, _], _ => rfl
  have b_l_every := F_l_every.binds (ps := ["_law_size"]) fun _ _ _ _ _ _ us hl => match us, hl with | [_], _ => rfl
  have b_l_right := F_l_right.binds (ps := ["_law_size", "_law_some"]) fun _ _ _ _ _ _ us hl => match us, hl with | [_, _], _ => rfl
  have e := hfa.symm.trans m_law
  cases e
  have T : Txt mg := ⟨PySem.W.mg_none_of X G z_int, PySem.W.mg_none_of X G z_bool, PySem.W.mg_none_of X G z_tuple, PySem.W.mg_none_of X G z_list, PySem.W.mg_none_of X G z_isinstance, PySem.W.mg_none_of X G z_len, PySem.W.mg_none_of X G z_enumerate, PySem.W.mg_none_of X G z_range, PySem.W.mg_none_of X G z_min, PySem.W.mg_none_of X G z_max, PySem.W.mg_none_of X G z_sorted, PySem.W.mg_none_of X G z_set, PySem.W.mg_none_of X G z_repr, ⟨_, PySem.W.mg_of X G z_MOST_CELLS, ⟨_, rfl⟩⟩⟩
  have bL : ∀ (s : Shared) (v : Value), BindsTo s fd_law ⟨[v], []⟩ [("_law_script", v)] := by
    obtain ⟨oc, od, kV, doc, pm, an, cdv, ct, osl, efd, lk, hcd⟩ := F_law.ex
    subst efd
    exact fun s v => .of_eq rfl
  refine ⟨fd_law, bL, fun base _ _ => ?_⟩
  have c_whole := cal_of F_is_whole m_is_whole b_is_whole (ok_is_whole (P := l.prog) (w := w) (base := base) F_is_whole T)
  have c_cell := cal_of F_is_cell m_is_cell b_is_cell (ok_is_cell F_is_cell c_whole)
  have c_exch := cal_of F_is_exchange m_is_exchange b_is_exchange (ok_is_exchange F_is_exchange T c_cell)
  have c_cc := cal_of F_check_cells m_check_cells b_check_cells (ok_check_cells F_check_cells T c_cell)
  have c_cw := cal_of F_check_web m_check_web b_check_web (ok_check_web F_check_web T c_exch)
  have c_po := cal_of F_pieces_of m_pieces_of b_pieces_of (ok_pieces_of (k := 0) (P := l.prog) (w := w) (base := base) F_pieces_of T)
  have g_pc := ok_pieces F_pieces c_cc c_cw c_po
  have c_pc := cal_of F_pieces m_pieces b_pieces g_pc
  have k_pc := kcal_of F_pieces m_pieces (kbn_of (ps := ["cells", "web"]) (ks := ["web", "cells"]) F_pieces gSwap gSwap_rel fun _ _ _ _ _ _ ws hl => match ws, hl with | [_, _], _ => rfl) g_pc
  have g_tr := ok_is_tree F_is_tree T c_cc c_cw c_po
  have c_tr := cal_of F_is_tree m_is_tree b_is_tree g_tr
  have k_tr := kcal_of F_is_tree m_is_tree (kbn_of (ps := ["cells", "web"]) (ks := ["web", "cells"]) F_is_tree gSwap gSwap_rel fun _ _ _ _ _ _ ws hl => match ws, hl with | [_, _], _ => rfl) g_tr
  have c_dr := cal_of F_l_draws m_l_draws b_l_draws (ok_draws (P := l.prog) (w := w) (base := base) F_l_draws T)
  have c_nx := cal_of F_l_next m_l_next b_l_next (ok_next (P := l.prog) (w := w) (base := base) F_l_next T)
  have c_wb := cal_of F_l_web m_l_web b_l_web (ok_web F_l_web T c_nx)
  have c_lp := cal_of F_l_pieces m_l_pieces b_l_pieces (ok_l_pieces (k := 0) (P := l.prog) (w := w) (base := base) F_l_pieces T)
  have c_ev := cal_of F_l_every m_l_every b_l_every (ok_l_every (k := 0) (P := l.prog) (w := w) (base := base) F_l_every T)
  have c_rt := calG_of F_l_right m_l_right b_l_right (ok_l_right F_l_right T ⟨c_lp, c_pc, k_pc, c_tr, k_tr⟩)
  exact ok_law F_law T ⟨c_dr, c_wb, c_ev, c_rt⟩
end Un
open PySem PySem.W PyProof.Rows in
set_option maxRecDepth 100000 in
set_option maxHeartbeats 0 in
theorem PySem.Challenge.cw_unnoted_k01_pieces_and_trees_holds : PySem.Challenge.rw_unnoted_k01_pieces_and_trees.Holds := by
  w_on; o_law; k_head; (case hw => w_witness2)
  k_fill
  refine Un.walk_ofG (l := PySem.Challenge.rw_unnoted_k01_pieces_and_trees) (n := 63) (k := 7) (x := "_law_script") (sp := Un.spLaw) rfl (by decide) rfl ⟨rfl, by decide, by decide⟩ (fun w h Y => PySem.W.kIn_of Y) ?F (fun K H a ns hl hS => ⟨a, ns, rfl, hS, hl, fun _ => rfl⟩)
  case F =>
    intro w mg fa h KX G hmg
    refine' Un.all_mk KX G hmg ?d_is_whole ?d_is_cell ?d_is_exchange ?d_check_cells ?d_check_web ?d_pieces ?d_is_tree ?d_pieces_of ?d_l_draws ?d_l_next ?d_l_web ?d_l_pieces ?d_l_every ?d_l_right ?d_law ?z_int ?z_bool ?z_tuple ?z_list ?z_isinstance ?z_len ?z_enumerate ?z_range ?z_min ?z_max ?z_sorted ?z_set ?z_repr ?z_MOST_CELLS
    (case d_is_whole => (refine' Un.defIn_mk ?a ?l ?c ?k; (case a => k_is); (case l => k_is); (case c => k_is); (case k => k_is)))
    (case d_is_cell => (refine' Un.defIn_mk ?a ?l ?c ?k; (case a => k_is); (case l => k_is); (case c => k_is); (case k => k_is)))
    (case d_is_exchange => (refine' Un.defIn_mk ?a ?l ?c ?k; (case a => k_is); (case l => k_is); (case c => k_is); (case k => k_is)))
    (case d_check_cells => (refine' Un.defIn_mk ?a ?l ?c ?k; (case a => k_is); (case l => k_is); (case c => k_is); (case k => k_is)))
    (case d_check_web => (refine' Un.defIn_mk ?a ?l ?c ?k; (case a => k_is); (case l => k_is); (case c => k_is); (case k => k_is)))
    (case d_pieces => (refine' Un.defIn_mk ?a ?l ?c ?k; (case a => k_is); (case l => k_is); (case c => k_is); (case k => k_is)))
    (case d_is_tree => (refine' Un.defIn_mk ?a ?l ?c ?k; (case a => k_is); (case l => k_is); (case c => k_is); (case k => k_is)))
    (case d_pieces_of => (refine' Un.defIn_mk ?a ?l ?c ?k; (case a => k_is); (case l => k_is); (case c => k_is); (case k => k_is)))
    (case d_l_draws => (refine' Un.defIn_mk ?a ?l ?c ?k; (case a => k_is); (case l => k_is); (case c => k_is); (case k => k_is)))
    (case d_l_next => (refine' Un.defIn_mk ?a ?l ?c ?k; (case a => k_is); (case l => k_is); (case c => k_is); (case k => k_is)))
    (case d_l_web => (refine' Un.defIn_mk ?a ?l ?c ?k; (case a => k_is); (case l => k_is); (case c => k_is); (case k => k_is)))
    (case d_l_pieces => (refine' Un.defIn_mk ?a ?l ?c ?k; (case a => k_is); (case l => k_is); (case c => k_is); (case k => k_is)))
    (case d_l_every => (refine' Un.defIn_mk ?a ?l ?c ?k; (case a => k_is); (case l => k_is); (case c => k_is); (case k => k_is)))
    (case d_l_right => (refine' Un.defIn_mk ?a ?l ?c ?k; (case a => k_is); (case l => k_is); (case c => k_is); (case k => k_is)))
    (case d_law => (refine' Un.defIn_mk ?a ?l ?c ?k; (case a => k_is); (case l => k_is); (case c => k_is); (case k => k_is)))
    (case z_int => k_is)
    (case z_bool => k_is)
    (case z_tuple => k_is)
    (case z_list => k_is)
    (case z_isinstance => k_is)
    (case z_len => k_is)
    (case z_enumerate => k_is)
    (case z_range => k_is)
    (case z_min => k_is)
    (case z_max => k_is)
    (case z_sorted => k_is)
    (case z_set => k_is)
    (case z_repr => k_is)
    (case z_MOST_CELLS => k_is)
