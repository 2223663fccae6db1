import PyProof.Rows.All
import Wide.All
import OpenK.AllK
import Wide.FinOn
import HandS.ForMost
import HandS.Codes
import HandS.Defaults
import HandS.TupSets
import HandS.IsInst
import HandS.Wide
import HandS.TupLe
import PyProof.ReprRoads
import PyProof.ReprBulk
import PyProof.EqLayable
import HandS.Conv
import HandS.SetFor
import HandS.Deep
import HandS.Exc
import HandS.ExcInit
import HandS.ExcIs
import HandS.ExcField
import HandS.FStr
import HandS.WordsExc
import KE.KTryMore
import KE.KExcIs
import KE.KExcInit
import PyProof.SumWalk
import HandS.SortRule
import HandS.Strs
import PyProof.Rows.SetFrom
import HandS.Style
import HandS.WideBits
import HandS.SortInts
import KE.KDictZip
import HandS.Iter
import HandS.Lambda
import HandS.ForExc
import KE.KNest
import KE.KNestM
import HandS.NestedK
import HandS.Property
import PySem.Challenge.RW_unnoted_k03_what_webs_refuse
set_option Elab.async false
set_option linter.all false
set_option maxRecDepth 100000
set_option maxHeartbeats 4000000
namespace Un
open PySem PySem.Spec PyProof.Rows L2
/-! ### powers of great ints -/
def CPowB (i j : Int) : Prop := 0 ≤ j ∧ (Builtin.Int.intBits i : Int) * j ≤ 2 ^ 27
theorem op_powB {X : Cx} : OpR X (binaryOp .Pow) (rI CPowB fun i j => .int (i ^ j.toNat)) :=
  opI fun _ _ _ _ _ _ _ hc q => pow_int hc.1 hc.2 q
/-! ### repr of data -/
structure ReprOk (d : PyData) : Prop where
  sh : d.showable = true
  nd : d.hasDict = false
  dp : d.depth ≤ 60
  ln : d.shown.length ≤ sizeLine
def rReprD (K : PySem.W.Frag) : List V → Hp → VK → Prop := fun vs H Q => ∃ (a : Addr) (d : PyData), vs = [.ref a] ∧ Dp K H (.ref a) d ∧ ReprOk d ∧ Q (.str d.shown) H
theorem call_reprD {X : Cx} (hg : X.A.guards = some []) (hu : X.A.units + 64 < cLine) : CallR X (.builtin "repr") (rReprD X.K) := by
  intro pins s σ H vs us Q I r h
  obtain ⟨a, d, rfl, hd, ⟨h1, h2, h3, h4⟩, q⟩ := h
  obtain ⟨as, rd⟩ := Dp.reads I d _ (.ref a) hd rfl
  have e : us = [.ref a] := Vals.ref1 r
  subst e
  refine repr_of_reads' rd h1 (fun z => ?_) hg (by omega) (fun _ _ z => z) (fun h' u tk hk => ?_) h4
  · rw [h2] at z
    cases z
  · refine ⟨.str d.shown, H, ?_, ⟨u, rfl⟩, q⟩
    exact I.call (ch := []) (Un.kept hk) (I.hok.kept hk) I.bare (fun _ z => nomatch z)
/-! ### calls by keywords alone -/
/-- a def by its name, called by keywords alone; g orders the values -/
structure KCal (P : Program) (w : World) (K : PySem.W.Frag) (mg : Str → Option Value) (base : Heap) (k : Nat) (x : Str) (sp : Sp) (ks : List Str) (gV : List V → List V → List V) : Prop where
  ex : ∃ (f : Addr) (fd : FuncData) (ps : List Str) (g : List Value → List Value → List Value), FnOk P w K mg base CX0 k f fd ps sp ∧ mg x = some (.ref f) ∧ PySem.W.keepIn K (.ref f) = true ∧ KBn K fd ps 0 ks g gV
def tCallK0 (m : Nat) (sp : Sp) (gV : List V → List V → List V) (tk : TA) : TE := fun σ H Q => tk σ H fun zs H2 => zs.length = m ∧ sp (gV [] zs) H2 Q E0
theorem pe_kc {X : Cx} {j k : Nat} {x : Str} {sp : Sp} {ks : List Str} {gV : List V → List V → List V} {p pos : Pos} {kws : List Keyword} {tk : TA} (c : KCal X.prog X.w X.K X.mg X.base k x sp ks gV) (hr : Room j X.A) (hk : k ≤ j) (hg : Gl X x) (hkw : PK X kws tk)
    (hall : (backToKw pos (keywordEach kws X.env)).all (·.1.isSome) = true := by rfl) (hks : (backToKw pos (keywordEach kws X.env)).filterMap (·.1) = ks := by rfl) (hdb : (x == ("__debug__" : Str)) = false := by decide)
    (hpl : ((backTo pos (starEach [] X.env)).any (·.1) || (backToKw pos (keywordEach kws X.env)).any (·.1.isNone)) = false := by rfl) : PE X (.Call (.Name x p) [] kws pos) (tCallK0 ks.length sp gV tk) := by
  obtain ⟨f, fd, ps, g, F, hm, kp, hb⟩ := c.ex
  refine ⟨fun pins s σ H Q I h => wpAny_Call_Name_kw (ld_glob I hg hm ?_ hdb)⟩
  refine PySem.W.callWith_KW0 (h₀ := X.base) I.ok.mod.kin kp hall (thn (hkw.run pos pins s σ H _ I h) ?_) hpl
  rintro ws s2 ⟨zs, H2, I2, rz, l2, q2⟩
  refine ⟨I2.kIn, ?_⟩
  rw [hks]
  exact run_fnN (us := []) (vs := []) F (hr.mono hk) hb pass0 I2 .nil rz rfl l2 q2
/-! ### defs that lean on there being no guard around -/
structure FnG (P : Program) (w : World) (K : PySem.W.Frag) (mg : Str → Option Value) (base : Heap) (k : Nat) (f : Addr) (fd : FuncData) (ps : List Str) (sp : Sp) : Prop where
  len : ∀ vs H Q E, sp vs H Q E → vs.length = ps.length
  run : ∀ (A : Around) (outer : List Env) (s : Shared) (H : Hp) (args : Args) (us : List Value) (vs : List V) (Q : VK), A.guards = some [] → Room k A →
    Env0 P w K mg base A outer s H → BindsTo s fd args (ps.zip us) → Vals vs us → sp vs H Q E0 → codeAny (model P w) A (.call (.ref f) args) (CR CX0 outer P w H s Q E0) s
section
variable {P : Program} {w : World} {K : PySem.W.Frag} {mg : Str → Option Value} {base : Heap} {x qual : Str} {st : Stmt} {f : Addr} {fd : FuncData}
theorem fnG_ok {N ps : List Str} {k : Nat} {sp : Sp} (F : Fun K x qual st f fd) (S : FnScope N ps (defScope st)) (len : ∀ vs H Q E, sp vs H Q E → vs.length = ps.length)
    (body : ∀ (cdv : Value) (A : Around) (outer : List Env) (s : Shared) (H : Hp) (vs : List V) (Q : VK), A.guards = some [] → Room k (A.deeper (envOfC qual (defScope st) s.heap.objs.size f cdv)) → sp vs H Q E0 →
      ∃ t, PSs (cxOf CX0 P w K mg base N qual (defScope st) f cdv A outer s H E0).nox (defBody st) t ∧ t { nx := fun _ H' => Q .non H', rt := Q } (start N vs) H) : FnG P w K mg base (k + 1) f fd ps sp := by
  obtain ⟨oc, od, kV, doc, pm, an, cdv, ct, osl, efd, lk, hcd⟩ := F.ex
  subst efd
  refine ⟨len, ?_⟩
  intro A outer s H args us vs Q hg hr e0 hb r hsp
  have hl := len vs H Q E0 hsp
  have same : ∀ b o, base.get? b = some o → s.heap.get? b = some o := fun b o e => (e0.bs b o e).1
  have inK : K.In s.heap := e0.mod.kin.keeps same
  have nolim : s.heap.NoLimit := e0.mod.nolimit.keeps same
  refine codeAny_call_function hr.depth (inK _ _ lk) rfl S.co S.gen rfl (PySem.W.codeRec_of inK hcd) (hb _ _ _ _ ?_)
  refine wpAny_newFunctionEnv_cells S.kind ?_ ?_
  · rintro ⟨n, v⟩ hy
    rcases S.par n (List.of_mem_zip hy).1 with q | q
    · exact Or.inl q
    · exact Or.inr ⟨q, PySem.W.cellsFrom_some _ _ _ (Or.inl q)⟩
  · intro env he s1 x1
    subst he
    refine ⟨nolim.keeps x1.toInCall.keep, codeAny_func ?_⟩
    obtain ⟨t, ht, hq⟩ := body cdv A outer s H vs Q hg (hr.deeper _) hsp
    have I0 := inv_start (CX := CX0) (P := P) (w := w) (K := K) (mg := mg) (base := base) (E := E0) (cd := cdv) S hr.hd e0 hl r x1
    refine wpAny_mono (ht.nox.run [] s1 (start N vs) H _ I0 hq) ?_ (fun e s' hs => hs)
    rintro fl s' hs
    cases fl with
    | ret u =>
      obtain ⟨v, σ', H', J, rv, q⟩ := hs
      exact ⟨v, H', J.os, J.bare, J.base, J.hok, rv, q⟩
    | next =>
      obtain ⟨σ', H', J, q⟩ := hs
      exact ⟨.non, H', J.os, J.bare, J.base, J.hok, rfl, q⟩
    | brk =>
      obtain ⟨_, _, _, q⟩ := hs
      exact q.elim
    | cont =>
      obtain ⟨_, _, _, q⟩ := hs
      exact q.elim
end
/-- .. by its name -/
structure CalG (P : Program) (w : World) (K : PySem.W.Frag) (mg : Str → Option Value) (base : Heap) (k : Nat) (x : Str) (sp : Sp) : Prop where
  ex : ∃ (f : Addr) (fd : FuncData) (ps : List Str) (ds : List Value) (dvs : List V) (sp0 : Sp), FnG P w K mg base k f fd ps sp0 ∧ mg x = some (.ref f) ∧ PySem.W.keepIn K (.ref f) = true ∧ Binds K fd ps ds ∧ Vals dvs ds ∧ ∀ vs H Q, sp vs H Q E0 → sp0 (vs ++ dvs) H Q E0
theorem vals_app : ∀ {vs : List V} {us : List Value} {zs : List V} {ws : List Value}, Vals vs us → Vals zs ws → Vals (vs ++ zs) (us ++ ws)
  | _, _, _, _, .nil, r => r
  | _, _, _, _, .cons a t, r => .cons a (vals_app t r)
theorem pe_cG {X : Cx} {j k : Nat} {x : Str} {sp : Sp} {p pos : Pos} {e : Expr} {es : List Expr} {t : TA} (hgd : X.A.guards = some []) (c : CalG X.prog X.w X.K X.mg X.base k x sp) (hr : Room j X.A) (hk : k ≤ j) (hg : Gl X x) (ha : PA X (e :: es) t)
    (hdb : (x == ("__debug__" : Str)) = false := by decide) (he : starEach (e :: es) X.env = (false, eval e X.env) :: starEach es X.env := by rfl) (hpl : (backTo pos (starEach es X.env)).any (·.1) = false := by rfl) :
    PE X (.Call (.Name x p) (e :: es) [] pos) (tCall sp [] E0 t) := by
  obtain ⟨f, fd, ps, ds, dvs, sp0, F, hm, kp, hb, hv, hsp⟩ := c.ex
  refine ⟨fun pins s σ H Q I h => wpAny_Call_Name_kw (ld_glob I hg hm ?_ hdb)⟩
  refine PySem.W.callWith_K (h₀ := X.base) I.ok.mod.kin kp (thn (ha.run pos pins s σ H _ I h) ?_) he hpl
  rintro us s1 ⟨vs, H1, I1, r, q⟩
  refine ⟨I1.kIn, ?_⟩
  rw [List.append_nil] at q
  have q0 := hsp _ _ _ q
  have r0 := vals_app r hv
  have hl : (us ++ ds).length = ps.length := by
    rw [← r0.length]
    exact F.len _ _ _ _ q0
  have hb1 := hb s1 us I1.kIn hl
  refine wpAny_call (codeAny_mono (F.run X.A X.stack s1 H1 ⟨us, []⟩ (us ++ ds) (vs ++ dvs) Q hgd (hr.mono hk) I1.env0 hb1 r0 q0) ?_)
  intro rr s' hq
  cases rr with
  | error z => exact hq.elim
  | ok fl =>
    cases fl with
    | ret u => exact I1.after hq
    | next => exact hq.elim
    | brk => exact hq.elim
    | cont => exact hq.elim
end Un

set_option maxRecDepth 100000
set_option maxHeartbeats 4000000
namespace Un
open PySem PySem.Spec PyProof.Rows L2
/-! ### data that is shown and compared -/
structure Fine (D m : Nat) (d : PyData) : Prop where
  sh : d.showable = true
  nd : d.hasDict = false
  ly : d.canLay0 = true
  lv : d.leavesShort 13 = true
  dp : d.depth ≤ D
  bk : d.bulk ≤ m
theorem Fine.mono {D m D' m' : Nat} {d : PyData} (h : Fine D m d) (h1 : D ≤ D') (h2 : m ≤ m') : Fine D' m' d :=
  ⟨h.sh, h.nd, h.ly, h.lv, Nat.le_trans h.dp h1, Nat.le_trans h.bk h2⟩
theorem Fine.non : Fine 0 0 .none := ⟨rfl, rfl, rfl, rfl, Nat.le_refl _, Nat.le_refl _⟩
theorem Fine.bool (b : Bool) : Fine 0 0 (.bool b) := ⟨rfl, rfl, rfl, rfl, Nat.le_refl _, Nat.le_refl _⟩
theorem log_small {n : Nat} (h : n < 10 ^ 12) : n.log2 < 1920 := by
  by_cases e : n = 0
  · subst e
    decide
  · refine (Nat.log2_lt e).mpr (Nat.lt_trans h ?_)
    exact Nat.lt_of_lt_of_le (by decide : 10 ^ 12 < 2 ^ 40) (Nat.pow_le_pow_right (by decide) (by decide))
theorem Fine.int {i : Int} (h : i.natAbs < 10 ^ 12) : Fine 0 0 (.int i) := by
  refine ⟨?_, rfl, rfl, ?_, Nat.le_refl _, Nat.le_refl _⟩
  · simp only [PyData.showable, decide_eq_true_eq]
    exact log_small h
  · simp only [PyData.leavesShort, decide_eq_true_eq]
    exact PyData.shown_int_le h
theorem Fine.all {D m : Nat} : ∀ {ds : List PyData}, (∀ d ∈ ds, Fine D m d) →
    PyData.showableAll ds = true ∧ PyData.hasDictAll ds = false ∧ PyData.canLayAll0 ds = true ∧ PyData.leavesShortAll 13 ds = true ∧ PyData.depthAll ds ≤ D ∧ PyData.bulkAll ds ≤ ds.length * (m + 1)
  | [], _ => ⟨rfl, rfl, rfl, rfl, Nat.zero_le _, Nat.zero_le _⟩
  | d :: ds, h => by
    obtain ⟨a1, a2, a3, a4, a5, a6⟩ := Fine.all fun e he => h e (List.mem_cons_of_mem _ he)
    have f := h d List.mem_cons_self
    refine ⟨?_, ?_, ?_, ?_, ?_, ?_⟩
    · simp only [PyData.showableAll, f.sh, a1, Bool.and_self]
    · simp only [PyData.hasDictAll, f.nd, a2, Bool.or_self]
    · simp only [PyData.canLayAll0, f.ly, a3, Bool.and_self]
    · simp only [PyData.leavesShortAll, f.lv, a4, Bool.and_self]
    · simp only [PyData.depthAll]
      exact Nat.max_le.mpr ⟨f.dp, a5⟩
    · simp only [PyData.bulkAll, List.length_cons]
      have := f.bk
      rw [Nat.add_mul]
      omega
theorem Fine.list {D m L : Nat} {ds : List PyData} (h : ∀ d ∈ ds, Fine D m d) (hl : ds.length ≤ L) : Fine (D + 1) (L * (m + 1)) (.list ds) := by
  obtain ⟨a1, a2, a3, a4, a5, a6⟩ := Fine.all h
  refine ⟨?_, ?_, ?_, ?_, ?_, ?_⟩
  · simp only [PyData.showable, a1]
  · simp only [PyData.hasDict, a2]
  · simp only [PyData.canLay0, a3]
  · simp only [PyData.leavesShort, a4]
  · simp only [PyData.depth]
    omega
  · simp only [PyData.bulk]
    exact Nat.le_trans a6 (Nat.mul_le_mul_right _ hl)
theorem Fine.tuple {D m L : Nat} {ds : List PyData} (h : ∀ d ∈ ds, Fine D m d) (hl : ds.length ≤ L) : Fine (D + 1) (L * (m + 1)) (.tuple ds) := by
  obtain ⟨a1, a2, a3, a4, a5, a6⟩ := Fine.all h
  refine ⟨?_, ?_, ?_, ?_, ?_, ?_⟩
  · simp only [PyData.showable, a1]
  · simp only [PyData.hasDict, a2]
  · simp only [PyData.canLay0, a3]
  · simp only [PyData.leavesShort, a4]
  · simp only [PyData.depth]
    omega
  · simp only [PyData.bulk]
    exact Nat.le_trans a6 (Nat.mul_le_mul_right _ hl)
theorem Fine.len {D m : Nat} {d : PyData} (h : Fine D m d) (hm : m ≤ 2 ^ 20) : d.shown.length ≤ sizeLine :=
  PyData.shown_fits_bulk (B := 13) (by decide) (by decide) h.lv (Nat.le_trans h.bk hm)
theorem rOk {D m : Nat} {d : PyData} (h : Fine D m d) (hD : D ≤ 60 := by decide) (hm : m ≤ 2 ^ 20 := by decide) : ReprOk d := ⟨h.sh, h.nd, Nat.le_trans h.dp hD, h.len hm⟩
theorem Fine.shaped {D m : Nat} {d : PyData} (h : Fine D m d) (hD : D ≤ 60) : SeqAt.shaped d = true := by
  unfold SeqAt.shaped
  rw [h.ly, Bool.true_and, decide_eq_true_eq]
  exact Nat.le_trans h.dp (Nat.le_trans hD (by decide))
/-! ### the data of ints, pairs, lists of them -/
def dI (n : Int) : PyData := .int n
def dL (ns : List Int) : PyData := .list (ns.map .int)
def dLL (xss : List (List Int)) : PyData := .list (xss.map dL)
def dP (e : Int × Int) : PyData := .tuple [.int e.1, .int e.2]
def dW (es : List (Int × Int)) : PyData := .list (es.map dP)
def Sml (ns : List Int) : Prop := ∀ n ∈ ns, n.natAbs < 10 ^ 12
theorem fine_L {ns : List Int} (h : Sml ns) {L : Nat} (hl : ns.length ≤ L) : Fine 1 L (dL ns) := by
  have f := Fine.list (D := 0) (m := 0) (L := L) (ds := ns.map PyData.int) (fun d hd => by
    obtain ⟨n, hn, rfl⟩ := List.mem_map.mp hd
    exact Fine.int (h n hn)) (by rw [List.length_map]; exact hl)
  exact f.mono (Nat.le_refl _) (by omega)
theorem fine_LL {xss : List (List Int)} {L M : Nat} (h : ∀ xs ∈ xss, Sml xs ∧ xs.length ≤ L) (hl : xss.length ≤ M) : Fine 2 (M * (L + 1)) (dLL xss) :=
  Fine.list (fun d hd => by
    obtain ⟨xs, hx, rfl⟩ := List.mem_map.mp hd
    exact fine_L (h xs hx).1 (h xs hx).2) (by rw [List.length_map]; exact hl)
theorem fine_P {e : Int × Int} (h1 : e.1.natAbs < 10 ^ 12) (h2 : e.2.natAbs < 10 ^ 12) : Fine 1 2 (dP e) :=
  (Fine.tuple (D := 0) (m := 0) (L := 2) (ds := [.int e.1, .int e.2]) (fun d hd => by
    rcases List.mem_cons.mp hd with rfl | hd
    · exact Fine.int h1
    · rw [List.mem_singleton.mp hd]
      exact Fine.int h2) (Nat.le_refl _)).mono (Nat.le_refl _) (by omega)
theorem fine_W {es : List (Int × Int)} {L : Nat} (h : ∀ e ∈ es, e.1.natAbs < 10 ^ 12 ∧ e.2.natAbs < 10 ^ 12) (hl : es.length ≤ L) : Fine 2 (L * 3) (dW es) :=
  Fine.list (fun d hd => by
    obtain ⟨e, he, rfl⟩ := List.mem_map.mp hd
    exact fine_P (h e he).1 (h e he).2) (by rw [List.length_map]; exact hl)
/-! ### heaps -/
theorem same_upd {H : Hp} {p : Addr} {o : HO} (h : H p = none) : Same H (upd H p o) := fun b x e => by
  rw [upd_ne (ne_of_none e h)]
  exact e
theorem Same.mut {H H' : Hp} {p : Addr} {o : HO} (e : Same H H') (h : H p = none) : Same H (upd H' p o) := fun b x ha => by
  rw [upd_ne (ne_of_none ha h)]
  exact e b x ha
theorem Same.tup {K : PySem.W.Frag} {H H' : Hp} {a : Addr} {xs : List V} (e : Same H H') (h : SqT K H a xs) : SqT K H' a xs := by
  rcases h with (h | ⟨o, h⟩) | h
  · exact .inl (.inl (e _ _ h))
  · exact .inl (.inr ⟨o, e _ _ h⟩)
  · exact .inr h
theorem sqL_of {K : PySem.W.Frag} {H : Hp} {a : Addr} {xs : List V} (h : H a = some (.lst xs)) : SqL K H a xs := .inl (.inl h)
theorem sqT_of {K : PySem.W.Frag} {H : Hp} {a : Addr} {xs : List V} (h : H a = some (.tup xs)) : SqT K H a xs := .inl (.inl h)
/-- all that was tracked is as it was, but for the addresses in S -/
def SameBut (S : Addr → Prop) (H H' : Hp) : Prop := ∀ b o, ¬ S b → H b = some o → H' b = some o
theorem SameBut.refl (S : Addr → Prop) (H : Hp) : SameBut S H H := fun _ _ _ h => h
theorem SameBut.trans {S : Addr → Prop} {H H1 H2 : Hp} (a : SameBut S H H1) (b : SameBut S H1 H2) : SameBut S H H2 := fun c o n h => b c o n (a c o n h)
theorem Same.but {S : Addr → Prop} {H H' : Hp} (e : Same H H') : SameBut S H H' := fun b o _ h => e b o h
theorem SameBut.mut {S : Addr → Prop} {H H' : Hp} {p : Addr} {o : HO} (e : SameBut S H H') (h : S p) : SameBut S H (upd H' p o) := fun b x n ha => by
  have nb : b ≠ p := fun z => n (by rw [z]; exact h)
  rw [upd_ne nb]
  exact e b x n ha
theorem SameBut.new {S : Addr → Prop} {H H' : Hp} {p : Addr} {o : HO} (e : SameBut S H H') (h : H' p = none) : SameBut S H (upd H' p o) := fun b x n ha => by
  rw [upd_ne (ne_of_none (e b x n ha) h)]
  exact e b x n ha
theorem SameBut.all {S : Addr → Prop} {H H' : Hp} (e : SameBut S H H') (n : ∀ b, S b → H b = none) : Same H H' := fun b o h => e b o (fun z => by
  rw [n b z] at h
  cases h) h
/-! ### a web or log at a: a list of tuples of two ints -/
def Prs (H : Hp) (ts : List Addr) (es : List (Int × Int)) : Prop := Paired (fun t (e : Int × Int) => H t = some (.tup [.int e.1, .int e.2])) ts es
def WebAt (K : PySem.W.Frag) (H : Hp) (a : Addr) (es : List (Int × Int)) : Prop := ∃ ts : List Addr, SqL K H a (ts.map V.ref) ∧ Prs H ts es
theorem Prs.keep {H H' : Hp} (k : ∀ t xs, H t = some (.tup xs) → H' t = some (.tup xs)) : ∀ {ts : List Addr} {es : List (Int × Int)}, Prs H ts es → Prs H' ts es
  | _, _, .nil => .nil
  | _, _, .cons r t => .cons (k _ _ r) (Prs.keep k t)
theorem Prs.length {H : Hp} {ts : List Addr} {es : List (Int × Int)} (h : Prs H ts es) : ts.length = es.length := Paired.length h
theorem Prs.get {H : Hp} : ∀ {ts : List Addr} {es : List (Int × Int)} {i : Nat} {t : Addr}, Prs H ts es → ts[i]? = some t → ∃ e, es[i]? = some e ∧ H t = some (.tup [.int e.1, .int e.2])
  | _, _, _, _, .nil, h => by simp at h
  | _, _, 0, _, .cons r _, h => by
    simp at h
    subst h
    exact ⟨_, rfl, r⟩
  | _, _, i + 1, t, .cons _ q, h => by
    obtain ⟨e, h1, h2⟩ := Prs.get (i := i) q (by simpa using h)
    exact ⟨e, by simpa using h1, h2⟩
theorem Prs.append {H : Hp} : ∀ {ts us : List Addr} {es fs : List (Int × Int)}, Prs H ts es → Prs H us fs → Prs H (ts ++ us) (es ++ fs)
  | _, _, _, _, .nil, q => q
  | _, _, _, _, .cons r p, q => .cons r (Prs.append p q)
theorem WebAt.same {K : PySem.W.Frag} {H H' : Hp} {a : Addr} {es : List (Int × Int)} (h : WebAt K H a es) (s : Same H H') : WebAt K H' a es := by
  obtain ⟨ts, h1, h2⟩ := h
  exact ⟨ts, s.seq h1, h2.keep fun t xs e => s t _ e⟩
theorem dp_ints {K : PySem.W.Frag} {H : Hp} : ∀ ns : List Int, DpAll K H (ns.map V.int) (ns.map PyData.int)
  | [] => .nil
  | n :: r => .cons (.int n) (dp_ints r)
theorem dp_L {K : PySem.W.Frag} {H : Hp} {a : Addr} {ns : List Int} (h : SqL K H a (ns.map V.int)) : Dp K H (.ref a) (dL ns) := .lst h (dp_ints ns)
theorem dp_prs {K : PySem.W.Frag} {H : Hp} : ∀ {ts : List Addr} {es : List (Int × Int)}, Prs H ts es → DpAll K H (ts.map V.ref) (es.map dP)
  | _, _, .nil => .nil
  | _, _, .cons r t => .cons (.tup (sqT_of r) (.cons (.int _) (.cons (.int _) .nil))) (dp_prs t)
theorem WebAt.dp {K : PySem.W.Frag} {H : Hp} {a : Addr} {es : List (Int × Int)} (h : WebAt K H a es) : Dp K H (.ref a) (dW es) := by
  obtain ⟨ts, h1, h2⟩ := h
  exact .lst h1 (dp_prs h2)
/-! ### a list of lists of ints at p -/
def Rws (H : Hp) (as : List Addr) (xss : List (List Int)) : Prop := Paired (fun b (xs : List Int) => H b = some (.lst (xs.map V.int))) as xss
def LLAt (H : Hp) (p : Addr) (as : List Addr) (xss : List (List Int)) : Prop := H p = some (.lst (as.map V.ref)) ∧ Rws H as xss
theorem Rws.keep {H H' : Hp} : ∀ {as : List Addr} {xss : List (List Int)}, (∀ b ∈ as, ∀ o, H b = some o → H' b = some o) → Rws H as xss → Rws H' as xss
  | _, _, _, .nil => .nil
  | _, _, k, .cons r t => .cons (k _ List.mem_cons_self _ r) (Rws.keep (fun b hb => k b (List.mem_cons_of_mem _ hb)) t)
theorem Rws.length {H : Hp} {as : List Addr} {xss : List (List Int)} (h : Rws H as xss) : as.length = xss.length := Paired.length h
theorem Rws.get {H : Hp} : ∀ {as : List Addr} {xss : List (List Int)} {i : Nat} {b : Addr}, Rws H as xss → as[i]? = some b → ∃ xs, xss[i]? = some xs ∧ H b = some (.lst (xs.map V.int))
  | _, _, _, _, .nil, h => by simp at h
  | _, _, 0, _, .cons r _, h => by
    simp at h
    subst h
    exact ⟨_, rfl, r⟩
  | _, _, i + 1, t, .cons _ q, h => by
    obtain ⟨e, h1, h2⟩ := Rws.get (i := i) q (by simpa using h)
    exact ⟨e, by simpa using h1, h2⟩
theorem Rws.mem {H : Hp} {as : List Addr} {xss : List (List Int)} (h : Rws H as xss) {b : Addr} (hb : b ∈ as) : ∃ xs, xs ∈ xss ∧ H b = some (.lst (xs.map V.int)) := by
  obtain ⟨i, hi⟩ := List.getElem?_of_mem hb
  obtain ⟨xs, h1, h2⟩ := h.get hi
  exact ⟨xs, List.mem_of_getElem? h1, h2⟩
theorem Rws.append {H : Hp} : ∀ {ts us : List Addr} {es fs : List (List Int)}, Rws H ts es → Rws H us fs → Rws H (ts ++ us) (es ++ fs)
  | _, _, _, _, .nil, q => q
  | _, _, _, _, .cons r p, q => .cons r (Rws.append p q)
theorem dp_rws {K : PySem.W.Frag} {H : Hp} : ∀ {as : List Addr} {xss : List (List Int)}, Rws H as xss → DpAll K H (as.map V.ref) (xss.map dL)
  | _, _, .nil => .nil
  | _, _, .cons r t => .cons (dp_L (sqL_of r)) (dp_rws t)
theorem LLAt.dp {K : PySem.W.Frag} {H : Hp} {p : Addr} {as : List Addr} {xss : List (List Int)} (h : LLAt H p as xss) : Dp K H (.ref p) (dLL xss) := .lst (sqL_of h.1) (dp_rws h.2)
theorem LLAt.same {H H' : Hp} {p : Addr} {as : List Addr} {xss : List (List Int)} (h : LLAt H p as xss) (s : Same H H') : LLAt H' p as xss := ⟨s _ _ h.1, h.2.keep fun b _ o e => s b o e⟩
theorem LLAt.but {S : Addr → Prop} {H H' : Hp} {p : Addr} {as : List Addr} {xss : List (List Int)} (h : LLAt H p as xss) (s : SameBut S H H') (hp : ¬ S p) (ha : ∀ b ∈ as, ¬ S b) : LLAt H' p as xss :=
  ⟨s _ _ hp h.1, h.2.keep fun b hb o e => s b o (ha b hb) e⟩
/-! ### the end of the law -/
theorem walk_ofG {l : PySem.W.OpenLaw} {n k : Nat} {q : Program} {loose : List Str} {XP : (Str → Option Value) → Heap → Prop} {YP : World → Heap → Prop} {d : DefRec} {K : Params → PySem.W.Frag} {sp : PySem.W.Frag → Sp} {x : Str}
    (hn : l.most = some n) (hn2 : n ≤ sizeLine) (hdf : d.params.defaults = []) (hr : Room k callerA) (hY : ∀ (w : World) (h : Heap), YP w h → (K w.params).In h)
    (F : ∀ (w : World) (mg : Str → Option Value) (fa : Addr) (h : Heap), (K w.params).In h → h.Ns mainGlobals mg → mg d.name = some (.ref fa) → ∃ fd : FuncData, (∀ (s : Shared) (u : Value), BindsTo s fd ⟨[u], []⟩ [(x, u)]) ∧
      ∀ base : Heap, (K w.params).In base → base.Ns mainGlobals mg → FnG l.prog w (K w.params) mg base k fa fd [x] (sp (K w.params)))
    (hsp : ∀ (K : PySem.W.Frag) (H : Hp) (a : Addr) (ns : List Int), ns.length ≤ n → SqL K H a (ns.map V.int) → sp K [.ref a] H (fun v _ => v = .bl true) E0) :
    PySem.W.WalkO q loose XP YP l.row.toRowW d [] (fun f vs => PySem.call f vs) := by
  refine Att.attach_call hn hdf ?_
  intro w s0 s1 mg mb fa o pm cd doc a vs ns G Y ho hd hcd hmg hobj hints hlen hgens
  have inK := hY w _ Y
  obtain ⟨fd, hbind, hF⟩ := F w mg fa _ inK G.T.g hmg
  have hlen2 : ns.length ≤ sizeLine := Nat.le_trans hlen hn2
  have rv := vals_ints hints
  -- what an abstract heap must give
  have main : ∀ H : Hp, SqL (K w.params) H a (ns.map V.int) → HOk l.prog w H s1.heap → (∀ b, H b = none ∨ (b = a ∧ (K w.params).lookup a = none ∧ ∃ u, H b = some (.frz { cls := .type "list", data := .seq vs.toArray } u))) →
      codeAny (model l.prog w) callerA (.call (.ref fa) ⟨[.ref a], []⟩) (fun r s' => r = .ok (.ret (.bool true)) ∧ OldK s1.heap s'.heap ∧ s'.os = s1.os ∧ AllBare s'.gens) s1 := by
    intro H hS hok hH
    have dict0 : ∀ {b : Addr} {ob : Obj} {es : Array DictEntry} {ep : Nat}, s1.heap.get? b = some ob → ob.data = .dict es ep → H b = none := by
      intro b ob es ep e1 e2
      rcases hH b with z | ⟨rfl, _⟩
      · exact z
      · rw [hobj] at e1
        cases e1
        cases e2
    have ns0 : ∀ {b : Addr} {m : Str → Option Value}, s1.heap.Ns b m → (hidT s1.heap H).Ns b m := by
      rintro b m ⟨ob, es, ep, e1, e2, r⟩
      exact ⟨ob, es, ep, hidT_get e1 (dict0 e1 e2), e2, r⟩
    have k0 : (K w.params).In (hidT s1.heap H) := by
      intro b ob e
      refine hidT_get (inK b ob e) ?_
      rcases hH b with z | ⟨rfl, z, _⟩
      · exact z
      · rw [z] at e
        cases e
    obtain ⟨mc, l1, l2⟩ := G.T.nolimit
    have env0 : Env0 l.prog w (K w.params) mg (hidT s1.heap H) callerA [] s1 H :=
      ⟨rfl, ⟨k0, ns0 G.T.g, ⟨mb, ns0 G.T.b, G.T.builtins⟩, ⟨mc, ns0 l1, l2⟩⟩, fun b ob e => of_hidT e, Nat.le_of_eq (hidT_size _ _), trivial, fun b hb => (List.not_mem_nil hb).elim, hok, .of_eq hgens⟩
    have run := (hF _ k0 (ns0 G.T.g)).run callerA [] s1 H ⟨[.ref a], []⟩ [.ref a] [.ref a] (fun v _ => v = .bl true) rfl hr env0 (hbind s1 (.ref a)) (.cons rfl .nil) (hsp _ H a ns hlen hS)
    refine codeAny_mono run ?_
    intro r s' h
    cases r with
    | error e => exact h.elim
    | ok fl =>
      cases fl with
      | next => exact h.elim
      | brk => exact h.elim
      | cont => exact h.elim
      | ret u =>
        obtain ⟨v, H', os, bare, un, hok', rr, rfl⟩ := h
        have eu : u = Value.bool true := rr
        subst eu
        refine ⟨rfl, OldK.of_keep ?_, os, bare⟩
        intro b ob e
        rcases hH b with z | ⟨rfl, _, u, z⟩
        · exact un.keep b ob e z (fun t => (List.not_mem_nil t).elim) (fun t => (List.not_mem_nil t).elim)
        · have e2 := (hok' b _ (un.frzs b _ u z)).1
          have e1 := (hok b _ z).1
          rw [e] at e1
          cases e1
          exact e2
  cases hk : (K w.params).lookup a with
  | some ob =>
    have e := inK a ob hk
    rw [hobj] at e
    cases e
    refine main (fun _ => none) ?_ ?_ fun _ => .inl rfl
    · exact .inr ⟨_, vs.toArray, _, hk, rfl, rfl, rfl, by rw [List.size_toArray, hints.length]; exact hlen2, by simpa using rv⟩
    · intro b u z
      cases z
  | none =>
    refine main (fun b => if b = a then some (.frz { cls := .type "list", data := .seq vs.toArray } (.lst (ns.map V.int))) else none) ?_ ?_ ?_
    · exact .inl (.inr ⟨_, if_pos rfl⟩)
    · intro b u z
      have z' : (if b = a then some (HO.frz { cls := .type "list", data := .seq vs.toArray } (.lst (ns.map V.int))) else none) = some u := z
      split at z'
      · rename_i eb
        cases z'
        subst eb
        exact ⟨hobj, by rw [List.length_map]; exact hlen2, vs, _, rv, hobj⟩
      · cases z'
    · intro b
      by_cases eb : b = a
      · exact .inr ⟨eb, hk, _, if_pos eb⟩
      · exact .inl (if_neg eb)
end Un

set_option maxRecDepth 100000
set_option maxHeartbeats 4000000
namespace Un
open PySem PySem.Spec PyProof.Rows L2
/-- what len asks, by the written part -/
abbrev rLenK (K : PySem.W.Frag) : List V → Hp → VK → Prop := fun xs H Q => ∃ p ys, xs = [.ref p] ∧ (SqL K H p ys ∨ SqT K H p ys) ∧ Q (.int ys.length) H
/-! ### for i, x in enumerate(xs) -/
theorem for_enum {K : PySem.W.Frag} {a : Addr} {xs : List V} {g : TG} {tb : TS} {D : Ends} {σ : L2.St} {H : Hp} (Pv : Nat → L2.St → Hp → Prop) (h0 : Pv 0 σ H) (hl : ∀ i σ H, i ≤ xs.length → Pv i σ H → SqL K H a xs)
    (hs : ∀ i x T σ H, xs[i]? = some x → Pv i σ H → H T = none → g (.ref T) σ (upd H T (.tup [.int (i : Nat), x])) fun σ2 H2 => tb { D with nx := Pv (i + 1), ct := Pv (i + 1), bk := D.nx } σ2 H2)
    (hd : ∀ σ H, Pv xs.length σ H → D.nx σ H) : tFor (fun _ H R => R (Ite K a) H) g tb D σ H := by
  refine ⟨fun i m σ H => i + m = xs.length ∧ Pv i σ H, ⟨xs.length, Nat.zero_add _, h0⟩, ?_⟩
  rintro i m σ H ⟨em, p⟩
  have q := hl i σ H (by omega) p
  by_cases hi : i < xs.length
  · have e := List.getElem?_eq_getElem hi
    refine .inr ⟨⟨xs, _, q, e⟩, Pv (i + 1), fun σ' H' p' => ⟨m - 1, by omega, by omega, p'⟩, ?_⟩
    rintro v H' ⟨T, x, rfl, nT, rfl, f⟩
    exact hs i x T σ H (f xs q) p nT
  · have ei : i = xs.length := by omega
    subst ei
    exact .inl ⟨⟨xs, q, Nat.le_refl _⟩, hd σ H p⟩
theorem SameBut.mutN {S : Addr → Prop} {H H' : Hp} {p : Addr} {o : HO} (e : SameBut S H H') (h : H p = none) : SameBut S H (upd H' p o) := fun b x n ha => by
  rw [upd_ne (ne_of_none ha h)]
  exact e b x n ha
theorem SameBut.freshN {S : Addr → Prop} {H H' : Hp} {p : Addr} (e : SameBut S H H') (hS : ∀ b, S b → H' b ≠ none) (h : H' p = none) : H p = none := by
  cases q : H p with
  | none => rfl
  | some o =>
    by_cases z : S p
    · exact absurd h (hS p z)
    · rw [e p o z q] at h
      cases h
theorem Prs.upd {H : Hp} {ts : List Addr} {es : List (Int × Int)} {p : Addr} {o : HO} (h : Prs H ts es) (hp : ∀ xs, H p ≠ some (.tup xs)) : Prs (upd H p o) ts es :=
  h.keep fun t xs e => by
    have n : t ≠ p := fun z => hp xs (z ▸ e)
    rw [upd_ne n]
    exact e
theorem Prs.snoc {H : Hp} {ts : List Addr} {es : List (Int × Int)} {t : Addr} {e : Int × Int} (h : Prs H ts es) (ht : H t = some (.tup [.int e.1, .int e.2])) : Prs H (ts ++ [t]) (es ++ [e]) := h.append (.cons ht .nil)
theorem map_snoc {α β : Type} (f : α → β) (l : List α) (x : α) : (l ++ [x]).map f = l.map f ++ [f x] := by rw [List.map_append] <;> rfl
/-! ### tuples of two ints in their order -/
theorem le_pair (u v p q : Int) : Ob.lexAt (fun j => decide (([u, v] : List Int).getD j 0 = [p, q].getD j 0)) (fun j => decide (([u, v] : List Int).getD j 0 ≤ [p, q].getD j 0)) (decide (([u, v] : List Int).length ≤ [p, q].length)) 0
    (min ([u, v] : List Int).length [p, q].length) = decide (u < p ∨ (u = p ∧ v ≤ q)) := by
  have e : min ([u, v] : List Int).length [p, q].length = 2 := rfl
  rw [e]
  show (if decide (u = p) = true then (if decide (v = q) = true then decide (2 ≤ 2) else decide (v ≤ q)) else decide (u ≤ p)) = _
  by_cases h1 : u = p
  · subst h1
    rw [if_pos (by simp)]
    by_cases h2 : v = q
    · subst h2
      simp
    · rw [if_neg (by simp [h2])]
      simp
  · rw [if_neg (by simp [h1])]
    simp only [decide_eq_decide]
    omega
def Lt2 (a b : Int × Int) : Prop := a.1 < b.1 ∨ (a.1 = b.1 ∧ a.2 < b.2)
def Asc (es : List (Int × Int)) : Prop := es.Pairwise Lt2
def Inb (n : Int) (es : List (Int × Int)) : Prop := ∀ e ∈ es, 1 ≤ e.1 ∧ e.1 < e.2 ∧ e.2 ≤ n
theorem Asc.at {es : List (Int × Int)} (h : Asc es) {i j : Nat} {a b : Int × Int} (hij : i < j) (ha : es[i]? = some a) (hb : es[j]? = some b) : Lt2 a b := by
  obtain ⟨h1, rfl⟩ := List.getElem?_eq_some_iff.mp ha
  obtain ⟨h2, rfl⟩ := List.getElem?_eq_some_iff.mp hb
  exact List.pairwise_iff_getElem.mp h i j h1 h2 hij
theorem yes {σ : L2.St} {H : Hp} {A : Bool → Hp → Prop} (h : A true H) : tYes σ H A := h
/-- two ways that go on alike -/
theorem if_via {c : Prop} [Decidable c] {A B : VK → Prop} {Q : VK} (G : V → Hp → Prop) (key : ∀ v H', G v H' → Q v H') (hA : c → (∀ v H', G v H' → Q v H') → A Q) (hB : ¬ c → (∀ v H', G v H' → Q v H') → B Q) : if c then A Q else B Q := by
  by_cases h : c
  · rw [if_pos h]
    exact hA h key
  · rw [if_neg h]
    exact hB h key
/-- x and y as a value whose answer is known -/
theorem and_via {c : Bool} {A : VK → Prop} {Q : VK} {H : Hp} (fl : Bool) (key : Q (.bl fl) H) (hF : c = false → fl = false) (hA : c = true → Q (.bl fl) H → A Q) : if c = true then A Q else Q (.bl false) H := by
  cases c with
  | true => exact iteT (hA rfl key)
  | false =>
    rw [hF rfl] at key
    exact iteF key
theorem qT {p : Prop} [Decidable p] (h : p) : V.bl (decide p) = V.bl true := congrArg V.bl (decide_eq_true h)
theorem qF {p : Prop} [Decidable p] (h : ¬ p) : V.bl (decide p) = V.bl false := congrArg V.bl (decide_eq_false h)
end Un

set_option maxRecDepth 100000
set_option maxHeartbeats 4000000
namespace Un
open PySem PySem.Spec PyProof.Rows L2
/-! ### a def as it stands behind the top -/
def DefIn (K : PySem.W.Frag) (x : PySem.Str) (st : Stmt) : Prop := ∃ (f : Addr) (oc : Value) (od an : Option Addr) (kV doc pm cdv ct : Value) (osl : Array (Option Value)),
  PySem.W.nsIn K mainGlobals x = some (some (.ref f)) ∧ K.lookup f = some ⟨oc, od, .func (PySem.W.fnOf x x (defArgs st) (defBody st) (defScope st) .none kV doc pm an cdv ct), osl⟩ ∧ PySem.W.codeIn K cdv x = true ∧ PySem.W.keepIn K (.ref f) = true
theorem defIn_mk {K : PySem.W.Frag} {x : PySem.Str} {st : Stmt} {f : Addr} {oc : Value} {od an : Option Addr} {kV doc pm cdv ct : Value} {osl : Array (Option Value)} (a : PySem.W.nsIn K mainGlobals x = some (some (.ref f)))
    (l : K.lookup f = some ⟨oc, od, .func (PySem.W.fnOf x x (defArgs st) (defBody st) (defScope st) .none kV doc pm an cdv ct), osl⟩) (c : PySem.W.codeIn K cdv x = true) (k : PySem.W.keepIn K (.ref f) = true) : DefIn K x st := ⟨f, oc, od, an, kV, doc, pm, cdv, ct, osl, a, l, c, k⟩
theorem DefIn.fn {K : PySem.W.Frag} {x : PySem.Str} {st : Stmt} {h : Heap} {mg : PySem.Str → Option Value} (D : DefIn K x st) (X : K.In h) (G : h.Ns mainGlobals mg) : ∃ (f : Addr) (fd : FuncData), Fun K x x st f fd ∧ mg x = some (.ref f) := by
  obtain ⟨f, oc, od, an, kV, doc, pm, cdv, ct, osl, a, l, c, k⟩ := D
  exact ⟨f, _, fun_mk (st := st) l c k, PySem.W.mg_of X G a⟩
theorem cal_of {P : Program} {w : World} {K : PySem.W.Frag} {mg : PySem.Str → Option Value} {base : Heap} {k : Nat} {x : PySem.Str} {st : Stmt} {f : Addr} {fd : FuncData} {ps : List PySem.Str} {sp : Sp} (F : Fun K x x st f fd) (m : mg x = some (.ref f)) (b : Binds K fd ps []) (G : FnOk P w K mg base CX0 k f fd ps sp) :
    C8.Cal P w K mg base k x sp [] := ⟨⟨f, fd, ps, [], G, m, F.kp, b, .nil⟩⟩
theorem calG_of {P : Program} {w : World} {K : PySem.W.Frag} {mg : PySem.Str → Option Value} {base : Heap} {k : Nat} {x : PySem.Str} {st : Stmt} {f : Addr} {fd : FuncData} {ps : List PySem.Str} {sp : Sp} (F : Fun K x x st f fd) (m : mg x = some (.ref f)) (b : Binds K fd ps []) (G : FnG P w K mg base k f fd ps sp) :
    CalG P w K mg base k x sp := ⟨⟨f, fd, ps, [], [], sp, G, m, F.kp, b, .nil, fun vs H Q h => by rw [List.append_nil]; exact h⟩⟩
theorem kbn_of {K : PySem.W.Frag} {x : PySem.Str} {st : Stmt} {f : Addr} {fd : FuncData} {ps ks : List PySem.Str} (F : Fun K x x st f fd) (g : {α : Type} → List α → List α → List α)
    (hrel : ∀ {vs : List V} {us : List Value} {zs : List V} {ws : List Value}, Vals vs us → Vals zs ws → Vals (g vs zs) (g us ws))
    (h : ∀ (kV doc pm : Value) (an : Option Addr) (cdv ct : Value) (ws : List Value), ws.length = ks.length → bindArgs (PySem.W.fnOf x x (defArgs st) (defBody st) (defScope st) .none kV doc pm an cdv ct) ⟨[], ks.zip ws⟩ = pure (ps.zip (g [] ws))) : KBn K fd ps 0 ks g g := by
  obtain ⟨oc, od, kV, doc, pm, an, cdv, ct, osl, efd, lk, hcd⟩ := F.ex
  subst efd
  refine ⟨fun s us ws _ h0 h1 => ?_, hrel⟩
  cases us with
  | nil => exact .of_eq (h kV doc pm an cdv ct ws h1)
  | cons u us => cases h0
theorem kcal_of {P : Program} {w : World} {K : PySem.W.Frag} {mg : PySem.Str → Option Value} {base : Heap} {k : Nat} {x : PySem.Str} {st : Stmt} {f : Addr} {fd : FuncData} {ps ks : List PySem.Str} {sp : Sp} {gV : List V → List V → List V} {g : List Value → List Value → List Value} (F : Fun K x x st f fd) (m : mg x = some (.ref f)) (b : KBn K fd ps 0 ks g gV) (G : FnOk P w K mg base CX0 k f fd ps sp) :
    KCal P w K mg base k x sp ks gV := ⟨⟨f, fd, ps, g, G, m, F.kp, b⟩⟩
/-! ### a def with defaults -/
def DefInD (K : PySem.W.Frag) (x : PySem.Str) (st : Stmt) (dvs : List V) : Prop := ∃ (f T : Addr) (oc oc2 : Value) (od an od2 : Option Addr) (kV doc pm cdv ct : Value) (osl osl2 : Array (Option Value)) (its : List Value) (n : Nat),
  PySem.W.nsIn K mainGlobals x = some (some (.ref f)) ∧ K.lookup f = some ⟨oc, od, .func (PySem.W.fnOf x x (defArgs st) (defBody st) (defScope st) (.ref T) kV doc pm an cdv ct), osl⟩ ∧ PySem.W.codeIn K cdv x = true ∧ PySem.W.keepIn K (.ref f) = true ∧
  K.lookup T = some ⟨oc2, od2, .seq its.toArray n, osl2⟩ ∧ Vals dvs its
theorem defInD2_mk {K : PySem.W.Frag} {x : PySem.Str} {st : Stmt} {i j : Int} {t1 t2 : Tok} {f T : Addr} {oc oc2 : Value} {od an od2 : Option Addr} {kV doc pm cdv ct : Value} {osl osl2 : Array (Option Value)} {n : Nat} (a : PySem.W.nsIn K mainGlobals x = some (some (.ref f)))
    (l : K.lookup f = some ⟨oc, od, .func (PySem.W.fnOf x x (defArgs st) (defBody st) (defScope st) (.ref T) kV doc pm an cdv ct), osl⟩) (c : PySem.W.codeIn K cdv x = true) (k : PySem.W.keepIn K (.ref f) = true)
    (t : K.lookup T = some ⟨oc2, od2, .seq #[.int i t1, .int j t2] n, osl2⟩) : DefInD K x st [.int i, .int j] := ⟨f, T, oc, oc2, od, an, od2, kV, doc, pm, cdv, ct, osl, osl2, [.int i t1, .int j t2], n, a, l, c, k, t, .cons ⟨_, rfl⟩ (.cons ⟨_, rfl⟩ .nil)⟩
abbrev FunDD (K : PySem.W.Frag) (x : PySem.Str) (st : Stmt) (dvs : List V) (f : Addr) (fd : FuncData) : Prop := FunD K x x (defArgs st) (defBody st) (defScope st) dvs [] f fd
theorem DefInD.fn {K : PySem.W.Frag} {x : PySem.Str} {st : Stmt} {dvs : List V} {h : Heap} {mg : PySem.Str → Option Value} (D : DefInD K x st dvs) (hd : dvs ≠ []) (X : K.In h) (G : h.Ns mainGlobals mg) : ∃ (f : Addr) (fd : FuncData), FunDD K x st dvs f fd ∧ mg x = some (.ref f) := by
  obtain ⟨f, T, oc, oc2, od, an, od2, kV, doc, pm, cdv, ct, osl, osl2, its, n, a, l, c, k, t, v⟩ := D
  exact ⟨f, _, ⟨⟨oc, od, _, kV, doc, pm, an, cdv, ct, osl, rfl, l, c, .inr ⟨hd, T, _, its, n, rfl, t, rfl, v⟩, .inl rfl⟩, k⟩, PySem.W.mg_of X G a⟩
theorem cal_ofD {P : Program} {w : World} {K : PySem.W.Frag} {mg : PySem.Str → Option Value} {base : Heap} {k : Nat} {x : PySem.Str} {st : Stmt} {f : Addr} {fd : FuncData} {ps : List PySem.Str} {sp : Sp} {dvs dv0 : List V} (F : FunDD K x st dvs f fd) (m : mg x = some (.ref f)) (b : ∃ ds, Vals dv0 ds ∧ Binds K fd ps ds) (G : FnOk P w K mg base CX0 k f fd ps sp) :
    C8.Cal P w K mg base k x sp dv0 := by
  obtain ⟨ds, v, b⟩ := b
  exact ⟨⟨f, fd, ps, ds, G, m, F.kp, b, v⟩⟩
theorem calG_ofD {P : Program} {w : World} {K : PySem.W.Frag} {mg : PySem.Str → Option Value} {base : Heap} {k : Nat} {x : PySem.Str} {st : Stmt} {f : Addr} {fd : FuncData} {ps : List PySem.Str} {sp sp0 : Sp} {dvs dv0 : List V} (F : FunDD K x st dvs f fd) (m : mg x = some (.ref f)) (b : ∃ ds, Vals dv0 ds ∧ Binds K fd ps ds) (G : FnG P w K mg base k f fd ps sp0)
    (h : ∀ vs H Q, sp vs H Q E0 → sp0 (vs ++ dv0) H Q E0) : CalG P w K mg base k x sp := by
  obtain ⟨ds, v, b⟩ := b
  exact ⟨⟨f, fd, ps, ds, dv0, sp0, G, m, F.kp, b, v, h⟩⟩
def gSwap {α : Type} : List α → List α → List α := fun _ zs => match zs with
  | [a, b] => [b, a]
  | l => l
theorem gSwap_rel {vs : List V} {us : List Value} {zs : List V} {ws : List Value} (_ : Vals vs us) (r : Vals zs ws) : Vals (gSwap vs zs) (gSwap us ws) := by
  cases r with
  | nil => exact .nil
  | cons r1 r =>
    cases r with
    | nil => exact .cons r1 .nil
    | cons r2 r =>
      cases r with
      | nil => exact .cons r2 (.cons r1 .nil)
      | cons r3 r => exact .cons r1 (.cons r2 (.cons r3 r))
end Un

set_option maxRecDepth 100000
set_option maxHeartbeats 8000000
namespace Un
open PySem PySem.Spec PyProof.Rows L2
/-! ### sets of tuples of ints: made empty, asked for what is not in them, added to -/
section
variable {P : Program} {w : World} {A : Around} {E : Value → Shared → Prop} {s : Shared} {a : Addr} {L : List (Addr × List Int)} {es : Array (Int × Value)} {ep : Nat} {t : SetTable}
/-- the c-th look on the way of a hash -/
abbrev lookAt (m : Nat) (h : Int) (c : Nat) : SetTable.Probe := nth m (runAt m (SetTable.bits h % (m + 1)) (SetTable.bits h)) c
theorem lookAt_clean (m : Nat) (h : Int) (c : Nat) : (lookAt m h c).dummy = none := by
  have go : ∀ (n : Nat) (p : SetTable.Probe), p.dummy = none → (nth m p n).dummy = none := by
    intro n
    induction n with
    | zero => exact fun p e => e
    | succ n ih =>
      intro p e
      refine ih _ ?_
      unfold adv
      split
      · exact e
      · exact e
  exact go c _ rfl
theorem look_none (R : SetTR P w s.heap a L es ep t) {x : Addr} {k : List Int} (hx : IsT P w s.heap k x) (hu : A.units < cLine) (no : k ∉ L.map (·.2)) {N : Nat} (n1 : N < 10 * SetTable.turns t.mask)
    (n2 : way t.mask (thash P w k) N ∉ t.place.toList) (n3 : ∀ c, c < N → way t.mask (thash P w k) c ∈ t.place.toList) {Q : SetFound → Shared → Prop} (q : ∀ j, Q (.free j false) s) :
    ∀ (fuel c : Nat) (stand : Option SetTable.Probe), stand.getD (t.probeStart (thash P w k)) = lookAt t.mask (thash P w k) c → c ≤ N → N < fuel + c → wpAny (model P w) A (setSearchFrom a (.ref x) (thash P w k) false fuel stand) Q E s := by
  intro fuel
  induction fuel with
  | zero =>
    intro c stand _ h1 h2
    omega
  | succ fuel ih =>
    intro c stand est hc hf
    obtain ⟨o, ho, hex, hd⟩ := R.ob
    rw [setSearchFrom_succ]
    refine wpAny_bind (wpAny_setState_of ho hd R.fits ?_)
    dsimp only
    refine wp_if_neg R.gw ?_
    try refine wpAny_bind (wpAny_pure ?_)
    have shift : ∀ d, nth t.mask (lookAt t.mask (thash P w k) c) d = lookAt t.mask (thash P w k) (c + d) := fun d => (nth_add t.mask c _ d).symm
    have shiftj : ∀ d, (nth t.mask (lookAt t.mask (thash P w k) c) d).j = way t.mask (thash P w k) (c + d) := fun d => by rw [shift d]
    have g := go_spec t R.tab.ris R.tab.dm (fun i => (es[i]?.map (·.1)).getD 0) (thash P w k) (10 * SetTable.turns t.mask) (N - c) (lookAt t.mask (thash P w k) c) (lookAt_clean _ _ _) (by omega)
      (fun d hd' => by
        rw [shiftj]
        exact n3 (c + d) (by omega)) (by
        rw [shiftj, Nat.add_sub_cancel' hc]
        exact n2)
    rcases g with ⟨d, i, d1, d2, _, _, d5⟩ | ⟨_, g2⟩
    · -- another tuple of this hash
      rw [shift d, shift (d + 1)] at d5
      rw [shiftj d] at d2
      have e5 : t.probe (fun i => (es[i]?.map (·.1)).getD 0) (thash P w k) (stand.getD (t.probeStart (thash P w k))) = some (.candidate (lookAt t.mask (thash P w k) (c + d)).j i (lookAt t.mask (thash P w k) (c + (d + 1)))) := by
        rw [est]
        exact d5
      rw [e5]
      dsimp only
      have il : i < L.length := by
        have z1 := (List.getElem?_eq_some_iff.mp d2).1
        have z2 := R.tab.sz
        rw [List.length_map] at z2
        rw [Array.length_toList] at z1
        omega
      obtain ⟨p, hp⟩ : ∃ p, L[i]? = some p := ⟨_, List.getElem?_eq_getElem il⟩
      have pm : p ∈ L := List.mem_of_getElem? hp
      have pk : ¬ p.2 = k := fun z => no (List.mem_map.mpr ⟨p, pm, z⟩)
      have onward : wpAny (model P w) A (searchRest a (.ref x) (thash P w k) false fuel es t (lookAt t.mask (thash P w k) (c + d)).j i (lookAt t.mask (thash P w k) (c + (d + 1)))) Q E s := by
        unfold searchRest
        rw [R.entry hp]
        dsimp only
        refine wpAny_bind (wpAny_holding (wpAny_eqBool_tuple hu (R.tup p pm) hx ?_))
        refine wpAny_bind (wpAny_setState_of ho hd R.fits ?_)
        dsimp only
        refine wp_if_neg (by simp) ?_
        try refine wpAny_bind (wpAny_pure ?_)
        rw [sameMem]
        dsimp only
        have live : t.slot (lookAt t.mask (thash P w k) (c + d)).j = .live i := slot_live R.tab.ris d2
        simp only [if_true, live, R.entry hp]
        refine wpAny_bind (wpAny_isSame_ref_self (wpAny_bind (wpAny_pure ?_)))
        simp only [if_true]
        refine wp_if_neg (by simp [pk]) ?_
        exact ih (c + (d + 1)) _ rfl (by omega) (by omega)
      by_cases led : t.led = true
      · refine wp_if_neg (by simp [led]) ?_
        try refine wpAny_bind (wpAny_pure ?_)
        exact onward
      · refine wp_if_pos (by simp [led]) ?_
        refine wpAny_bind (seen_tup hx ?_ ?_)
        · intro y hy
          obtain ⟨en, he, ee⟩ := List.mem_map.mp hy
          have he2 : en ∈ es.toList := by
            have z : en ∈ es ∧ en.1 = thash P w k := by simpa using he
            simpa using z.1
          rw [R.rows] at he2
          obtain ⟨p2, hp2, e2⟩ := List.mem_map.mp he2
          exact ⟨p2.2, p2.1, by rw [← ee, ← e2], R.tup p2 hp2⟩
        · refine wp_if_neg (by decide) ?_
          try refine wpAny_bind (wpAny_pure ?_)
          exact onward
    · have e5 : t.probe (fun i => (es[i]?.map (·.1)).getD 0) (thash P w k) (stand.getD (t.probeStart (thash P w k))) = some (.empty (nth t.mask (lookAt t.mask (thash P w k) c) (N - c)).j none) := by
        rw [est]
        exact g2
      rw [e5]
      dsimp only
      exact wpAny_pure (q _)
/-- x in the set: it is not -/
theorem tup_notIn (R : SetTR P w s.heap a L es ep t) {x : Addr} {k : List Int} (hx : IsT P w s.heap k x) (hu : A.units + 3 < cLine) (no : k ∉ L.map (·.2)) {Q : Value → Shared → Prop} (q : ∀ tk, Q (.bool false) { s with toks := tk }) :
    wpAny (model P w) A (compareOp .In (.ref x) (.ref a)) Q E s := by
  obtain ⟨o, ho, hex, hd⟩ := R.ob
  have hT : s.TypeIs (.ref a) "set" := ⟨o, ho, hex.1⟩
  show wpAny _ _ (do return .bool (← contains (.ref a) (.ref x))) Q E s
  refine wpAny_bind ?_
  unfold contains
  try with_reducible refine wpAny_holding ?_
  refine wpAny_bind (wpAny_specialOf hT F.slot_set_contains.lookup ?_)
  show wpAny _ _ (if (some (Value.builtin "set.__contains__") == some Value.none) = true then _ else _) _ E s
  rw [if_neg (by rw [beq_builtin_none]; exact Bool.false_ne_true)]
  refine wpAny_bind (wpAny_callSpecialUnlessNone?_slot (name := PySem.Str.ofString "__contains__") hT F.slot_set_contains (wpAny_call_entry F.slot_set_contains hT entry_set_contains ?_ (F.args_set_contains_2 _ _)))
  unfold Builtin.«frozenset.__contains__» Builtin.Frozenset.oneOther
  simp only [List.isEmpty_nil, bind_assoc]
  unfold Builtin.Frozenset.addrOf Builtin.Frozenset.withSetAsKey setContains
  refine wpAny_bind (wpAny_pure ?_)
  try dsimp only
  refine wpAny_bind (wpAny_pure ?_)
  try dsimp only
  refine wpAny_bind (wpAny_tryCatch ?_)
  refine wpAny_holding ?_
  refine wpAny_bind (wpAny_pyHash_tuple ?hu1 hx ?_)
  case hu1 =>
    show A.units + 1 < cLine
    omega
  have R2 : SetTR P w s.heap a L es ep t := R
  refine wpAny_bind ?_
  unfold setFind
  rw [show (100000 : Nat) = 99999 + 1 from rfl]
  unfold setFindIn
  refine wpAny_bind (wpAny_setState_of ho hd R.fits ?_)
  dsimp only
  refine wp_if_neg (by simp [byScan, Value.scannable]) ?_
  try refine wpAny_bind (wpAny_pure ?_)
  have room := R.room
  obtain ⟨N, m1, m2, m3⟩ := R.tab.first (by rw [List.length_map]; omega) (thash P w k)
  have big : N < 100000 := by
    have z : 10 * SetTable.turns t.mask ≤ 1420 := by
      unfold SetTable.turns
      rcases R.tab.mok with e | e | e <;> omega
    omega
  unfold setSearch
  refine wpAny_bind (look_none (ep := ep) (es := es) (t := t) ?R1 ?hx1 ?hu2 no m1 m2 m3 (fun j => ?_) 100000 0 none rfl (Nat.zero_le _) (by omega))
  case R1 => exact R
  case hx1 => exact hx
  case hu2 =>
    show A.units + 1 < cLine
    omega
  try dsimp only
  refine wpAny_pure ?_
  try dsimp only
  refine wpAny_pure ?_
  show wpAny _ _ (ret (Value.bool false)) _ _ _
  exact wpAny_pure ⟨_, rfl, wpAny_truthy_bool (wpAny_pure (q _))⟩
/-- set.add, the tuple is new -/
theorem tup_add (R : SetTR P w s.heap a L es ep t) {x : Addr} {k : List Int} (hx : IsT P w s.heap k x) (hu : A.units + 3 < cLine) (few : L.length + 1 < 64) (no : k ∉ L.map (·.2)) {Q : Value → Shared → Prop}
    (q : ∀ h' L' es' ep' t' tk, Heap.SameBut a s.heap h' → SetTR P w h' a L' es' ep' t' → L'.Perm ((x, k) :: L) → Q .none { s with heap := h', toks := tk }) : wpAny (model P w) A (call (.builtin "set.add") [.ref a, .ref x]) Q E s := by
  obtain ⟨o, ho, hex, hd⟩ := R.ob
  have hT : s.TypeIs (.ref a) "set" := ⟨o, ho, hex.1⟩
  refine wpAny_call_entry F.slot_set_add hT F.entry_set_add ?_ (F.args_set_add_2 _ _)
  unfold Builtin.«set.add» Builtin.Frozenset.oneOther
  simp only [List.isEmpty_nil, bind_assoc]
  unfold Builtin.Frozenset.addrOf setAdd
  refine wpAny_bind (wpAny_pure ?_)
  try dsimp only
  refine wpAny_bind (wpAny_pure ?_)
  try dsimp only
  refine wpAny_bind ?_
  refine wpAny_holding ?_
  refine wpAny_bind (wpAny_pyHash_tuple ?hu1 hx ?_)
  case hu1 =>
    show A.units + 1 < cLine
    omega
  refine add_at (ep := ep) (es := es) (t := t) ?R1 ?hx1 ?hu2 few fun b h' L' es' ep' t' sb R' _ pm => ?_
  case R1 => exact R
  case hx1 => exact hx
  case hu2 =>
    show A.units + 1 < cLine
    omega
  show wpAny _ _ (ret Value.none) _ _ _
  exact wpAny_pure ⟨_, rfl, q h' L' es' ep' t' _ sb R' (pm no)⟩
end
/-! ### the same over the layer -/
section
variable {X : Cx}
def rSet0T (P : Program) (w : World) : List V → Hp → VK → Prop := fun xs H Q => xs = [] ∧ ∀ p, H p = none → Q (.ref p) (upd H p (SetTO P w p []))
theorem cr_set0T : CallR X (.type "set") (rSet0T X.prog X.w) := by
  intro pins s σ H xs us Q I r h
  obtain ⟨rfl, q⟩ := h
  cases r
  refine setR_new fun _ => ?_
  refine ⟨.ref s.heap.objs.size, upd H s.heap.objs.size (SetTO X.prog X.w s.heap.objs.size []), ?_, rfl, q _ (I.hok.fresh (Nat.le_refl _))⟩
  exact I.laid (t' := s.toks) (fun b u e => Heap.get?_push_of_some _ e) (Nat.le_refl _) (setTO_new (setTR_fresh (Heap.get?_push_size _ rfl)).t0)
/-- x in the set of the tuples of L: it is not -/
def rTIn (K : PySem.W.Frag) (P : Program) (w : World) : R2 := fun x y H Q => ∃ (b a : Addr) (k : List Int) (L : List (Addr × List Int)), x = .ref b ∧ y = .ref a ∧ SqT K H b (k.map V.int) ∧ H a = some (SetTO P w a L) ∧ (∀ p ∈ L, SqT K H p.1 (p.2.map V.int)) ∧
  k ∉ L.map (·.2) ∧ Q (.bl false) H
theorem or_tIn (hu : X.A.units + 3 < cLine) : OpR X (compareOp .In) (rTIn X.K X.prog X.w) := by
  intro pins s σ H x y v u Q I rx ry h
  obtain ⟨b, a, k, L, rfl, rfl, hb, ha, hL, no, q⟩ := h
  cases rx
  cases ry
  have R0 : SetT0 X.prog X.w s.heap a L := (I.hok a _ ha).1
  obtain ⟨es, ep, t, R⟩ := R0.full fun p hp => I.isT (hL p hp)
  exact tup_notIn R (I.isT hb) hu no fun tk => ⟨.bl false, H, I.tok tk, rfl, q⟩
/-- set.add of a tuple that is not there -/
def rTAdd (K : PySem.W.Frag) (P : Program) (w : World) : V → List V → Hp → VK → Prop := fun x xs H Q => ∃ (a b : Addr) (k : List Int) (L : List (Addr × List Int)), x = .ref a ∧ xs = [.ref b] ∧ SqT K H b (k.map V.int) ∧ H a = some (SetTO P w a L) ∧
  (∀ p ∈ L, SqT K H p.1 (p.2.map V.int)) ∧ L.length + 1 < 64 ∧ k ∉ L.map (·.2) ∧ ∀ L' : List (Addr × List Int), L'.Perm ((b, k) :: L) → Q .non (upd H a (SetTO P w a L'))
theorem mt_tAdd (hu : X.A.units + 3 < cLine) : MtR X "set.add" (rTAdd X.K X.prog X.w) := by
  intro pins s σ H x xs v us Q I rx rxs h
  obtain ⟨a, b, k, L, rfl, rfl, hb, ha, hL, few, no, q⟩ := h
  cases rx
  rw [Vals.ref1 rxs]
  have R0 : SetT0 X.prog X.w s.heap a L := (I.hok a _ ha).1
  obtain ⟨es, ep, t, R⟩ := R0.full fun p hp => I.isT (hL p hp)
  refine tup_add R (I.isT hb) hu few no fun h' L' es' ep' t' tk sb R' pm => ?_
  have he : ∃ u, h'.get? a = some u := by
    obtain ⟨o, ho, _⟩ := R'.ob
    exact ⟨o, ho⟩
  exact ⟨.non, upd H a (SetTO X.prog X.w a L'), I.write (e := a) (t' := tk) (by rw [ha]; trivial) (.inl rfl) (fun b u nb hu => (sb.2 b nb).trans hu) he (setTO_new R'.t0), rfl, q L' pm⟩
def tTAdd (K : PySem.W.Frag) (P : Program) (w : World) (to : TE) (t : TA) : TE := fun σ H Q => to σ H fun x H1 => (∃ a L, x = V.ref a ∧ H1 a = some (SetTO P w a L)) ∧ t σ H1 fun xs H2 => rTAdd K P w x xs H2 Q
theorem pe_tAdd {o e : Expr} {es : List Expr} {to : TE} {t : TA} {apos cpos : Pos} (hu : X.A.units + 3 < cLine) (ho : PE X o to) (ha : PA X (e :: es) t) (hbase : attributeBase o "add" X.env (eval o X.env) = eval o X.env := by rfl)
    (hfew : ((backTo cpos (starEach (e :: es) X.env)).all (fun x => !x.1) && (backToKw cpos (keywordEach [] X.env)).all (fun x => x.1.isSome) &&
      decide ((e :: es).length + ([] : List Keyword).length + (if ([] : List Keyword).isEmpty then 0 else 1) < 30)) = true := by rfl) (hline : (apos.endLine == cpos.line) = true := by rfl)
    (hs : starEach (e :: es) X.env = (false, eval e X.env) :: starEach es X.env := by rfl) (hplain : (backTo cpos (starEach es X.env)).any (·.1) = false := by rfl) : PE X (.Call (.Attribute o "add" apos) (e :: es) [] cpos) (tTAdd X.K X.prog X.w to t) := by
  refine ⟨fun pins s σ H Q I h => ?_⟩
  refine wpAny_Call_method_late hbase hfew hline rfl (thn (ho.run pins s σ H _ I h) ?_)
  rintro v s1 ⟨x, H1, I1, r1, ⟨a, L, rfl, hka⟩, q1⟩
  have R0 : SetT0 X.prog X.w s1.heap a L := (I1.hok a _ hka).1
  obtain ⟨_, _, _, ⟨o, ho1, hex, _⟩, _⟩ := R0.ex
  cases r1
  refine ⟨"set", "set.add", F.plainAttrs_set, F.slot_set_add, F.type_set_add, ⟨o, ho1, hex.1⟩, ?_, ?_⟩
  · intro b eb
    cases eb
    exact ⟨o, ho1, hex.2.1⟩
  · have hA := ha.run cpos pins s1 σ H1 _ I1 q1
    rw [hs] at hA ⊢
    refine Calls.callWith_builtin (by show (false || (backTo cpos (starEach es X.env)).any (·.1)) = false; rw [hplain] <;> rfl) (Calls.evalArgs_plain ?_)
    refine thn hA ?_
    rintro us s2 ⟨vs, H2, I2, r2, q2⟩
    exact mt_tAdd hu pins s2 σ H2 (.ref a) vs (.ref a) us Q I2 rfl r2 q2
/-! ### xs.count(None) -/
def nonB : Value → Bool
  | .none => true
  | _ => false
theorem cnt_vals : ∀ {ys : List V} {us : List Value}, Vals ys us → (∀ y ∈ ys, y = .non ∨ ∃ i, y = .int i) → us.countP nonB = ys.countP isNon ∧ ∀ (A : Around) (s : Shared), ∀ u ∈ us, SeqAt.EqAt A s u .none (nonB u)
  | _, _, .nil, _ => ⟨rfl, fun _ _ u hu => (List.not_mem_nil hu).elim⟩
  | y :: ys, u :: us, .cons r t, f => by
    obtain ⟨h1, h2⟩ := cnt_vals t fun z hz => f z (List.mem_cons_of_mem _ hz)
    rcases f y List.mem_cons_self with rfl | ⟨i, rfl⟩
    · cases r
      refine ⟨by rw [List.countP_cons, List.countP_cons, h1] <;> rfl, fun A s v hv => ?_⟩
      rcases List.mem_cons.mp hv with rfl | hv
      · exact SeqAt.EqAt.same _
      · exact h2 A s v hv
    · obtain ⟨tk, rfl⟩ := r
      refine ⟨by rw [List.countP_cons, List.countP_cons, h1] <;> rfl, fun A s v hv => ?_⟩
      rcases List.mem_cons.mp hv with rfl | hv
      · exact SeqAt.EqAt.int_none _ _
      · exact h2 A s v hv
def rCntN (K : PySem.W.Frag) : V → List V → Hp → VK → Prop := fun x xs H Q => ∃ (p : Addr) (ys : List V), x = .ref p ∧ xs = [.non] ∧ SqL K H p ys ∧ (∀ y ∈ ys, y = .non ∨ ∃ i, y = .int i) ∧ Q (.int (ys.countP isNon : Nat)) H
theorem mt_countN : MtR X "list.count" (rCntN X.K) := by
  intro pins s σ H x xs v us Q I rx rxs h
  obtain ⟨p, ys, rfl, rfl, hs, hy, q⟩ := h
  cases rx
  obtain ⟨u, rfl, ru⟩ := rxs.one
  cases ru
  obtain ⟨its, rv, ⟨⟨cls, dd, data, sl⟩, n, ho, hc, hdn, hd⟩, hlen⟩ := I.list hs
  simp only at hc hd
  subst hc hd
  obtain ⟨c1, c2⟩ := cnt_vals rv hy
  refine call_meets PySem.F.slot_list_count ⟨_, ho, rfl⟩ PySem.F.entry_list_count (PySem.F.args_list_count_2 _ _)
    (SeqAt.list_countAt p its.toArray n dd sl .none nonB) ⟨ho, fun y hm => c2 _ _ y (by simpa using hm), ?_⟩
  refine ⟨.int (ys.countP isNon : Nat), H, I.tok _, ⟨s.toks, ?_⟩, q⟩
  show Value.int ((its.toArray.toList.countP nonB : Nat) : Int) s.toks = _
  rw [show its.toArray.toList.countP nonB = ys.countP isNon from c1]
end
end Un

set_option maxRecDepth 100000
set_option maxHeartbeats 8000000
namespace Un
open PySem PySem.Spec PyProof.Rows L2
/-- a web at a that is a list of its own -/
def WebL (H : Hp) (a : Addr) (es : List (Int × Int)) : Prop := ∃ ts : List Addr, H a = some (.lst (ts.map V.ref)) ∧ Prs H ts es
theorem WebL.at {K : PySem.W.Frag} {H : Hp} {a : Addr} {es : List (Int × Int)} (h : WebL H a es) : WebAt K H a es := by
  obtain ⟨ts, h1, h2⟩ := h
  exact ⟨ts, sqL_of h1, h2⟩
theorem WebL.same {H H' : Hp} {a : Addr} {es : List (Int × Int)} (h : WebL H a es) (s : Same H H') : WebL H' a es := by
  obtain ⟨ts, h1, h2⟩ := h
  exact ⟨ts, s _ _ h1, h2.keep fun t xs e => s _ _ e⟩
theorem WebL.lst {H : Hp} {a : Addr} {es : List (Int × Int)} (h : WebL H a es) : ∃ xs, H a = some (.lst xs) := by
  obtain ⟨ts, h1, _⟩ := h
  exact ⟨_, h1⟩
theorem flat_snoc {α β : Type} (f : α → List β) (l : List α) (x : α) : (l ++ [x]).flatMap f = l.flatMap f ++ f x := by
  rw [List.flatMap_append, List.flatMap_cons, List.flatMap_nil, List.append_nil]
theorem LLAt.out {H : Hp} {p : Addr} {as : List Addr} {xss : List (List Int)} (h : LLAt H p as xss) : p ∉ as := by
  intro hb
  obtain ⟨xs, _, e1⟩ := h.2.mem hb
  rw [h.1] at e1
  have e2 := HO.lst.inj (Option.some.inj e1)
  cases as with
  | nil => exact List.not_mem_nil hb
  | cons c cs' =>
    cases xs with
    | nil => cases e2
    | cons z zs => cases e2
theorem str_ne {x : PySem.Str} : V.bl (!decide (V.str x = V.str x)) = V.bl false := by simp
theorem str_eq {x : PySem.Str} : V.bl (decide (V.str x = V.str x)) = V.bl true := by simp
theorem dp2 {K : PySem.W.Frag} {H : Hp} {L p q : Addr} {d e : PyData} (h : H L = some (.lst [.ref p, .ref q])) (h1 : Dp K H (.ref p) d) (h2 : Dp K H (.ref q) e) : Dp K H (.ref L) (.list [d, e]) := .lst (sqL_of h) (.cons h1 (.cons h2 .nil))
theorem fine2 {D m : Nat} {d : PyData} (h : Fine D m d) : Fine (D + 1) (2 * (m + 1)) (.list [d, d]) := Fine.list (fun e he => by
  rcases List.mem_cons.mp he with rfl | he
  · exact h
  · rw [List.mem_singleton.mp he]
    exact h) (Nat.le_refl _)
theorem fine_web {n : Int} (n16 : n ≤ 16) {es : List (Int × Int)} (hI : Inb n es) (hl : es.length ≤ 200) : Fine 2 600 (dW es) := by
  refine fine_W (L := 200) (fun e he => ?_) hl
  obtain ⟨h1, h2, h3⟩ := hI e he
  omega
theorem cut_to (xs : List V) (k : Nat) : cutV xs none (some (k : Int)) = xs.take k := by
  unfold cutV
  rw [HT.sIx_none, HT.sIx_nat xs.length xs.length k, List.drop_zero, Nat.sub_zero]
  by_cases h : k ≤ xs.length
  · rw [Nat.min_eq_left h]
  · rw [Nat.min_eq_right (by omega), List.take_length, List.take_of_length_le (by omega)]
theorem Prs.take {H : Hp} : ∀ (k : Nat) {ts : List Addr} {es : List (Int × Int)}, Prs H ts es → Prs H (ts.take k) (es.take k)
  | 0, _, _, _ => .nil
  | _ + 1, _, _, .nil => .nil
  | k + 1, _, _, .cons r q => .cons r (Prs.take k q)
/-! ### the cells in their order -/
def cs (n : Int) : List Int := (List.range n.toNat).map fun (i : Nat) => 1 + (i : Int)
theorem mem_cs {n c : Int} : c ∈ cs n ↔ 1 ≤ c ∧ c ≤ n := by
  unfold cs
  rw [List.mem_map]
  constructor
  · rintro ⟨i, hi, rfl⟩
    have := List.mem_range.mp hi
    omega
  · rintro ⟨h1, h2⟩
    exact ⟨(c - 1).toNat, List.mem_range.mpr (by omega), by omega⟩
theorem cs_len (n : Int) : (cs n).length = n.toNat := by
  unfold cs
  rw [List.length_map, List.length_range]
theorem cs_take (n : Int) (i : Nat) (hi : i < n.toNat) : (cs n).take (i + 1) = (cs n).take i ++ [1 + (i : Int)] := by
  have g : (cs n)[i]? = some (1 + (i : Int)) := by
    unfold cs
    rw [List.getElem?_map, List.getElem?_range hi] <;> rfl
  rw [List.take_add_one, g] <;> rfl
end Un

set_option maxRecDepth 100000
set_option maxHeartbeats 4000000
namespace Un
open PySem PySem.Spec PyProof.Rows L2
/-! ### the text by places, the defs' scopes -/
def topS (i : Nat) : Stmt := PySem.Challenge.pw_unnoted_k03_what_webs_refuse.main.body.getD i (.Pass ⟨0, 0, 0, 0⟩)
abbrev s_InvalidCells___init__ : Stmt := inClass (topS 1) 0
theorem sc_InvalidCells___init__ : FnScope ["self", "cells"] ["self", "cells"] (defScope s_InvalidCells___init__) := ⟨rfl, rfl, rfl, by decide +kernel, rfl, by decide +kernel, by decide +kernel⟩
abbrev s_InvalidWeb___init__ : Stmt := inClass (topS 2) 0
theorem sc_InvalidWeb___init__ : FnScope ["self", "index"] ["self", "index"] (defScope s_InvalidWeb___init__) := ⟨rfl, rfl, rfl, by decide +kernel, rfl, by decide +kernel, by decide +kernel⟩
abbrev s_is_whole : Stmt := topS 5
theorem sc_is_whole : FnScope ["thing"] ["thing"] (defScope s_is_whole) := ⟨rfl, rfl, rfl, by decide +kernel, rfl, by decide +kernel, by decide +kernel⟩
abbrev s_is_cell : Stmt := topS 6
theorem sc_is_cell : FnScope ["cells", "thing"] ["cells", "thing"] (defScope s_is_cell) := ⟨rfl, rfl, rfl, by decide +kernel, rfl, by decide +kernel, by decide +kernel⟩
abbrev s_is_exchange : Stmt := topS 7
theorem sc_is_exchange : FnScope ["cells", "thing", "first", "second"] ["cells", "thing"] (defScope s_is_exchange) := ⟨rfl, rfl, rfl, by decide +kernel, rfl, by decide +kernel, by decide +kernel⟩
abbrev s_check_cells : Stmt := topS 8
theorem sc_check_cells : FnScope ["cells", "least", "most"] ["cells", "least", "most"] (defScope s_check_cells) := ⟨rfl, rfl, rfl, by decide +kernel, rfl, by decide +kernel, by decide +kernel⟩
abbrev s_check_web : Stmt := topS 9
theorem sc_check_web : FnScope ["cells", "web", "before", "index", "thing"] ["cells", "web"] (defScope s_check_web) := ⟨rfl, rfl, rfl, by decide +kernel, rfl, by decide +kernel, by decide +kernel⟩
abbrev s_pieces : Stmt := topS 11
theorem sc_pieces : FnScope ["cells", "web"] ["cells", "web"] (defScope s_pieces) := ⟨rfl, rfl, rfl, by decide +kernel, rfl, by decide +kernel, by decide +kernel⟩
abbrev s_bridges : Stmt := topS 12
theorem sc_bridges : FnScope ["cells", "web", "joining", "one"] ["cells", "web"] (defScope s_bridges) := ⟨rfl, rfl, rfl, by decide +kernel, rfl, by decide +kernel, by decide +kernel⟩
abbrev s_is_tree : Stmt := topS 13
theorem sc_is_tree : FnScope ["cells", "web"] ["cells", "web"] (defScope s_is_tree) := ⟨rfl, rfl, rfl, by decide +kernel, rfl, by decide +kernel, by decide +kernel⟩
abbrev s_round_bounds : Stmt := topS 14
theorem sc_round_bounds : FnScope ["cells", "web", "least", "greatest", "piece", "inner", "low", "high", "exchange"] ["cells", "web"] (defScope s_round_bounds) := ⟨rfl, rfl, rfl, by decide +kernel, rfl, by decide +kernel, by decide +kernel⟩
abbrev s_forms_tree : Stmt := topS 15
theorem sc_forms_tree : FnScope ["cells", "web"] ["cells", "web"] (defScope s_forms_tree) := ⟨rfl, rfl, rfl, by decide +kernel, rfl, by decide +kernel, by decide +kernel⟩
abbrev s_pieces_of : Stmt := topS 16
theorem sc_pieces_of : FnScope ["cells", "web", "names", "_", "leasts", "cell", "least"] ["cells", "web"] (defScope s_pieces_of) := ⟨rfl, rfl, rfl, by decide +kernel, rfl, by decide +kernel, by decide +kernel⟩
abbrev s_joining_of : Stmt := topS 17
theorem sc_joining_of : FnScope ["cells", "web", "_", "joining"] ["cells", "web"] (defScope s_joining_of) := ⟨rfl, rfl, rfl, by decide +kernel, rfl, by decide +kernel, by decide +kernel⟩
abbrev s_names_and_joining : Stmt := topS 18
theorem sc_names_and_joining : FnScope ["cells", "web", "names", "joining", "first", "second", "low", "high", "name"] ["cells", "web"] (defScope s_names_and_joining) := ⟨rfl, rfl, rfl, by decide +kernel, rfl, by decide +kernel, by decide +kernel⟩
abbrev s_web_without : Stmt := topS 19
theorem sc_web_without : FnScope ["web", "exchange", "kept"] ["web", "exchange"] (defScope s_web_without) := ⟨rfl, rfl, rfl, by decide +kernel, rfl, by decide +kernel, by decide +kernel⟩
abbrev s_piece_bounds : Stmt := topS 20
theorem sc_piece_bounds : FnScope ["many", "exchanges", "spare", "least", "greatest"] ["many", "exchanges"] (defScope s_piece_bounds) := ⟨rfl, rfl, rfl, by decide +kernel, rfl, by decide +kernel, by decide +kernel⟩
abbrev s_l_draws : Stmt := topS 22
theorem sc_l_draws : FnScope ["_law_cell"] ["_law_cell"] (defScope s_l_draws) := ⟨rfl, rfl, rfl, by decide +kernel, rfl, by decide +kernel, by decide +kernel⟩
abbrev s_l_next : Stmt := topS 23
theorem sc_l_next : FnScope ["_law_draws_here", "_law_k", "_law_number"] ["_law_draws_here"] (defScope s_l_next) := ⟨rfl, rfl, rfl, by decide +kernel, rfl, by decide +kernel, by decide +kernel⟩
abbrev s_l_odd_webs : Stmt := topS 24
theorem sc_l_odd_webs : FnScope ["_law_size", "_law_told", "_law_good", "_law_things", "_law_thing", "_law_k"] ["_law_size"] (defScope s_l_odd_webs) := ⟨rfl, rfl, rfl, by decide +kernel, rfl, by decide +kernel, by decide +kernel⟩
abbrev s_l_kept : Stmt := topS 25
theorem sc_l_kept : FnScope ["_law_ask", "_law_error", "e"] ["_law_ask"] (defScope s_l_kept) := ⟨rfl, rfl, rfl, by decide +kernel, rfl, by decide +kernel, by decide +kernel⟩
abbrev s_l_all : Stmt := topS 26
theorem sc_l_all : FnScope ["_law_size", "_law_some", "_law_due", "_law_asks", "_law_ask"] ["_law_size", "_law_some", "_law_due"] (defScope s_l_all) := ⟨rfl, rfl, rfl, by decide +kernel, rfl, by decide +kernel, by decide +kernel⟩
abbrev s_law : Stmt := topS 27
theorem sc_law : FnScope ["_law_script", "_law_draws_here", "_law_size", "_law_bad", "_law_at", "_law_before", "_law_cell"] ["_law_script"] (defScope s_law) := ⟨rfl, rfl, rfl, by decide +kernel, rfl, by decide +kernel, by decide +kernel⟩
end Un

set_option maxRecDepth 100000
set_option maxHeartbeats 4000000
namespace Un
open PySem PySem.Spec PyProof.Rows L2
/-! ### the built-in names -/
structure Txt (mg : Str → Option Value) : Prop where
  n_int : mg "int" = none
  n_bool : mg "bool" = none
  n_tuple : mg "tuple" = none
  n_list : mg "list" = none
  n_isinstance : mg "isinstance" = none
  n_len : mg "len" = none
  n_enumerate : mg "enumerate" = none
  n_range : mg "range" = none
  n_min : mg "min" = none
  n_max : mg "max" = none
  n_sorted : mg "sorted" = none
  n_set : mg "set" = none
  n_repr : mg "repr" = none
  g_MOST_CELLS : ∃ u, mg "MOST_CELLS" = some u ∧ RelV (.int 16) u
section
variable {P : Program} {w : World} {K : PySem.W.Frag} {mg : Str → Option Value} {base : Heap}
/-! ### the checks, where all is well -/
def spWhole : Sp := fun vs H Q _ => ∃ i : Int, vs = [.int i] ∧ Q (.bl true) H
theorem ok_is_whole {f : Addr} {fd : FuncData} (F : Fun K "is_whole" "is_whole" s_is_whole f fd) (T : Txt mg) : FnOk P w K mg base CX0 1 f fd ["thing"] spWhole := by
  refine F.ok sc_is_whole (fun vs H Q E h => ?_) (fun cdv A outer s H vs Q E hr h => ?_)
  · obtain ⟨i, rfl, _⟩ := h
    rfl
  · obtain ⟨i, rfl, q⟩ := h
    refine ⟨_, (pss_one (ps_ret (pe_and (pe_callB call_isi (by rfl) T.n_isinstance (by decide +kernel) (pa_cons (pv 0) (pa_cons (pe_bltn (v := .ty "int") (by rfl) T.n_int (by decide +kernel) rfl) pa_nil))) (pe_one (pe_not (pe_callB call_isi (by rfl) T.n_isinstance (by decide +kernel) (pa_cons (pv 0) (pa_cons (pe_bltn (v := .ty "bool") (by rfl) T.n_bool (by decide +kernel) rfl) pa_nil)))))))), ?_⟩
    refine ⟨_, rfl, .int i, .ty "int", .type "int", .type "int", true, rfl, .ty _, .base (.int i), kit_ty (by decide +kernel), true, rfl, iteT ?_⟩
    exact ⟨_, rfl, .int i, .ty "bool", .type "int", .type "bool", false, rfl, .ty _, .base (.int i), kit_ty (by decide +kernel), false, rfl, q⟩
def spCell : Sp := fun vs H Q _ => ∃ n i : Int, vs = [.int n, .int i] ∧ 1 ≤ i ∧ i ≤ n ∧ Q (.bl true) H
theorem ok_is_cell {f : Addr} {fd : FuncData} (F : Fun K "is_cell" "is_cell" s_is_cell f fd) (c : C8.Cal P w K mg base 1 "is_whole" spWhole []) : FnOk P w K mg base CX0 2 f fd ["cells", "thing"] spCell := by
  refine F.ok sc_is_cell (fun vs H Q E h => ?_) (fun cdv A outer s H vs Q E hr h => ?_)
  · obtain ⟨n, i, rfl, _⟩ := h
    rfl
  · obtain ⟨n, i, rfl, h1, h2, q⟩ := h
    refine ⟨_, (pss_one (ps_ret (pe_and (C8.pe_c c hr (by decide) (by rfl) (pa_cons (pv 1) pa_nil)) (pe_one (pe_chain op_le op_le pe_int (pv 1) (pv 0)))))), ?_⟩
    refine ⟨_, rfl, i, rfl, true, rfl, iteT ?_⟩
    refine ⟨_, rfl, 1, i, rfl, rfl, true, congrArg V.bl (decide_eq_true h1), iteT ?_⟩
    refine ⟨_, rfl, i, n, rfl, rfl, ?_⟩
    show Q (.bl (decide (i ≤ n))) H
    rw [decide_eq_true h2]
    exact q
def spExch (K : PySem.W.Frag) : Sp := fun vs H Q _ => ∃ (n u v : Int) (t : Addr), vs = [.int n, .ref t] ∧ H t = some (.tup [.int u, .int v]) ∧ 1 ≤ u ∧ u < v ∧ v ≤ n ∧ Q (.bl true) H
theorem ok_is_exchange {f : Addr} {fd : FuncData} (F : Fun K "is_exchange" "is_exchange" s_is_exchange f fd) (T : Txt mg) (c : C8.Cal P w K mg base 2 "is_cell" spCell []) : FnOk P w K mg base CX0 3 f fd ["cells", "thing"] (spExch K) := by
  refine F.ok sc_is_exchange (fun vs H Q E h => ?_) (fun cdv A outer s H vs Q E hr h => ?_)
  · obtain ⟨n, u, v, t, rfl, _⟩ := h
    rfl
  · obtain ⟨n, u, v, t, rfl, ht, h1, h2, h3, q⟩ := h
    refine ⟨_, (pss_cons (ps_if (PW.pt (pw_or (pt_not (pt_val (pe_callB call_isi (by rfl) T.n_isinstance (by decide +kernel) (pa_cons (pv 1) (pa_cons (pe_bltn (v := .ty "tuple") (by rfl) T.n_tuple (by decide +kernel) rfl) pa_nil))))) (pw_or1 (pt_cmpR op_ne (pe_callB call_len_seq (by rfl) T.n_len (by decide +kernel) (pa_cons (pv 1) pa_nil)) pe_int (by rfl))))) (pss_one (ps_ret pe_bl)) pss_nil)
      (pss_cons (ps_asg (pv 1) (pg_tup rfl (pgs_cons (pg_name (i := 2) sc_is_exchange.nd rfl (by first | exact Or.inl rfl | exact Or.inr rfl)) (pgs_cons (pg_name (i := 3) sc_is_exchange.nd rfl (by first | exact Or.inl rfl | exact Or.inr rfl)) pgs_nil))))
      (pss_one (ps_ret (pe_and (C8.pe_c c hr (by decide) (by rfl) (pa_cons (pv 0) (pa_cons (pv 2) pa_nil))) (pe_and (C8.pe_c c hr (by decide) (by rfl) (pa_cons (pv 0) (pa_cons (pv 3) pa_nil))) (pe_one (pe_cmpR op_lt (pv 2) (pv 3) (by rfl))))))))), ?_⟩
    refine ⟨_, rfl, .ref t, .ty "tuple", .type "tuple", .type "tuple", true, rfl, .ty _, .base (.tup ht), kit_ty (by decide +kernel), true, rfl, iteF ?_⟩
    refine ⟨_, rfl, t, _, rfl, .inr (sqT_of ht), rfl, false, rfl, iteF ?_⟩
    refine ⟨_, rfl, t, _, rfl, sqT_of ht, rfl, _, _, rfl, _, _, rfl, rfl, ?_⟩
    refine ⟨_, rfl, _, rfl, n, u, rfl, h1, by omega, true, rfl, iteT ?_⟩
    refine ⟨_, rfl, _, rfl, n, v, rfl, by omega, h3, true, rfl, iteT ?_⟩
    refine ⟨_, rfl, _, rfl, u, v, rfl, rfl, ?_⟩
    show Q (.bl (decide (u < v))) H
    rw [decide_eq_true h2]
    exact q
def spChkCells : Sp := fun vs H Q _ => ∃ n : Int, vs = [.int n, .int 1, .int 16] ∧ 1 ≤ n ∧ n ≤ 16 ∧ Q .non H
theorem ok_check_cells {f : Addr} {fd : FuncData} (F : FunDD K "check_cells" s_check_cells [.int 1, .int 16] f fd) (c : C8.Cal P w K mg base 1 "is_whole" spWhole []) : FnOk P w K mg base CX0 3 f fd ["cells", "least", "most"] spChkCells := by
  refine F.ok sc_check_cells (fun vs H Q E h => ?_) (fun cdv A outer s H vs Q E hr h => ?_)
  · obtain ⟨n, rfl, _⟩ := h
    rfl
  · obtain ⟨n, rfl, h1, h2, q⟩ := h
    refine ⟨_, (pss_one (ps_if (PW.pt (pw_or (pt_not (pt_val (C8.pe_c c hr (by decide) (by rfl) (pa_cons (pv 0) pa_nil)))) (pw_or1 (pt_not (pt_chain op_le op_le (pv 1) (pv 0) (pv 2)))))) (pss_one ps_never) pss_nil)), ?_⟩
    refine ⟨_, rfl, n, rfl, true, rfl, iteF ?_⟩
    refine ⟨_, rfl, _, rfl, 1, n, rfl, rfl, true, congrArg V.bl (decide_eq_true h1), iteT ?_⟩
    exact ⟨_, rfl, n, 16, rfl, rfl, true, congrArg V.bl (decide_eq_true h2), iteF q⟩
theorem binds_check_cells {f : Addr} {fd : FuncData} (F : FunDD K "check_cells" s_check_cells [.int 1, .int 16] f fd) : ∃ ds, Vals [.int 1, .int 16] ds ∧ Binds K fd ["cells", "least", "most"] ds :=
  FunD.binds1 F 1 0 (fun h => nomatch h) rfl fun _ _ _ _ _ _ _ us its h1 h2 => match us, its, h1, h2 with | [_], [_, _], _, _ => ⟨_, rfl, rfl⟩
end
end Un

set_option maxRecDepth 100000
set_option maxHeartbeats 4000000
namespace Un
open PySem PySem.Spec PyProof.Rows L2
/-! ### a tuple of any number of classes in an except clause -/
section
variable {M : Model} {K : PySem.W.Frag} {h : Heap}
theorem loopA {f : Value → PUnit → Sem (ForInStep PUnit)} : ∀ {l : List Value}, (∀ c ∈ l, PySem.W.Looks M h (f c ⟨⟩) (.yield ⟨⟩)) → PySem.W.Looks M h (forIn l PUnit.unit f) PUnit.unit
  | [], _ => by
    rw [List.forIn_nil]
    exact .now
  | c :: l, hf => by
    rw [List.forIn_cons]
    exact (hf c List.mem_cons_self).andThen (loopA fun d hd => hf d (List.mem_cons_of_mem _ hd))
theorem loopB {cls : Value} {f : Value → Option Bool × Unit → Sem (ForInStep (Option Bool × Unit))} (g : Value → Bool) :
    ∀ {l : List Value}, (∀ c ∈ l, PySem.W.Looks M h (f c (none, ())) (if g c then .done (some true, ()) else .yield (none, ()))) →
      PySem.W.Looks M h (forIn l ((none, ()) : Option Bool × Unit) f) (if l.any g then (some true, ()) else (none, ()))
  | [], _ => by
    rw [List.forIn_nil]
    exact .now
  | c :: l, hf => by
    rw [List.forIn_cons]
    have h1 := hf c List.mem_cons_self
    have h2 := loopB (cls := cls) g fun d hd => hf d (List.mem_cons_of_mem c hd)
    rw [List.any_cons]
    cases e : g c with
    | true =>
      rw [e] at h1
      exact h1.andThen .now
    | false =>
      rw [e] at h1
      exact h1.andThen (by rw [Bool.false_or]; exact h2)
theorem exmAll {cls : Value} : ∀ {l : List Value} {b : Bool}, PySem.W.exmAny K cls l = some b → ∃ g : Value → Bool, (∀ c ∈ l, PySem.W.exmOne K cls c = some (g c)) ∧ l.any g = b
  | [], b, e => ⟨fun _ => false, fun _ z => (nomatch z), by cases e; rfl⟩
  | c :: l, b, e => by
    obtain ⟨b1, d1, x, y, z⟩ := PySem.W.exmAny_cons e
    obtain ⟨g, hg, ha⟩ := exmAll y
    refine ⟨fun d => (PySem.W.exmOne K cls d).getD false, fun d hd => ?_, ?_⟩
    · have key : ∀ {o : Option Bool} {c : Bool}, o = some c → o = some (o.getD false) := fun {o c} q => by rw [q]; rfl
      rcases List.mem_cons.mp hd with rfl | hd
      · exact key x
      · exact key (hg d hd)
    · have e2 : ∀ r : List Value, (∀ d ∈ r, PySem.W.exmOne K cls d = some (g d)) → r.any (fun d => (PySem.W.exmOne K cls d).getD false) = r.any g := by
        intro r
        induction r with
        | nil => intro _; rfl
        | cons d r ih =>
          intro q
          rw [List.any_cons, List.any_cons, ih fun d hd => q d (List.mem_cons_of_mem _ hd), q d List.mem_cons_self]
          rfl
      rw [List.any_cons, x, z, e2 l hg, ha]
      rfl
theorem exmN {cls : Value} {l : List Value} {tp e : Addr} {b : Bool} (X : K.In h) (LT : PySem.W.Looks M h (typeOf (.ref e)) cls) (hp : h.get? tp = some { cls := .type "tuple", data := .seq l.toArray }) (hx : PySem.W.exmAny K cls l = some b) :
    PySem.W.Looks M h (excMatches (.ref e) (.ref tp)) b := by
  obtain ⟨g, hg, ha⟩ := exmAll hx
  have L0 : PySem.W.Looks M h (isInstance (.ref tp) (.type "tuple")) true := ((PySem.W.Looks.ld hp).andThen .now).andThen (PySem.W.Looks.of_pure isSubtype_tuple_tuple)
  have L1 : PySem.W.Looks M h (seqItems? (.ref tp)) (some l.toArray) := fun A Q E s k q => wpAny_seqItems (k _ _ hp) rfl q
  unfold excMatches
  refine PySem.W.Looks.andThen (a := true) L0 ?_
  rw [if_pos rfl]
  refine L1.andThen ?_
  refine PySem.W.Looks.andThen (a := l) (PySem.W.Looks.of_pure (by simp)) ?_
  refine (loopA fun c hc => ?_).andThen ?_
  · refine (PySem.W.exm_cls (M := M) X (hg c hc)).1.andThen ?_
    exact .now
  refine LT.andThen ?_
  refine (loopB (cls := cls) g fun c hc => ?_).andThen ?_
  · refine (PySem.W.exm_cls (M := M) X (hg c hc)).2.andThen ?_
    cases g c
    · exact .now
    · exact .now
  · show PySem.W.Looks M h _ b
    rw [← ha]
    cases l.any g
    · exact .now
    · exact .now
end
end Un

set_option maxRecDepth 100000
set_option maxHeartbeats 4000000
namespace Un
open PySem PySem.Spec PyProof.Rows L2
/-! ### an exception that was caught and is held -/
def exK (a : Addr) (cls : Value) (d : Option Addr) : HO := .ext fun h => ∃ (oe : Obj) (vs : Array Value), h.get? a = some oe ∧ Zc cls d oe ∧ oe.data = .fields vs
theorem exK_at {P : Program} {w : World} {H : Hp} {h : Heap} {a : Addr} {cls : Value} {d : Option Addr} (hok : HOk P w H h) (e : H a = some (exK a cls d)) : ∃ (oe : Obj) (vs : Array Value), h.get? a = some oe ∧ Zc cls d oe ∧ oe.data = .fields vs := by
  have x : ObjOk P w H h a (.ext fun h => ∃ (oe : Obj) (vs : Array Value), h.get? a = some oe ∧ Zc cls d oe ∧ oe.data = .fields vs) := hok a _ e
  exact x.1
theorem exK_own {a b x : Addr} {cls : Value} {d : Option Addr} : exK a cls d ≠ .own x := fun z => by unfold exK at z; cases z
theorem exK_tup {a : Addr} {xs : List V} {cls : Value} {d : Option Addr} : exK a cls d ≠ .tup xs := fun z => by unfold exK at z; cases z
theorem exK_tbl {a : Addr} {ps : Array Value} {cls : Value} {d : Option Addr} : exK a cls d ≠ .tbl ps := fun z => by unfold exK at z; cases z
theorem exK_ok {P : Program} {w : World} {H : Hp} {h : Heap} {a : Addr} {cls : Value} {d : Option Addr} {oe : Obj} {vs : Array Value} (e : h.get? a = some oe) (z : Zc cls d oe) (dt : oe.data = .fields vs) : ObjOk P w H h a (exK a cls d) :=
  ⟨⟨oe, vs, e, z, dt⟩, ⟨oe, e⟩, fun h1 h2 p k => by
    obtain ⟨o2, v2, e2, z2, d2⟩ := p
    exact ⟨o2, v2, k _ e2, z2, d2⟩⟩
section
variable {X : Cx} {pins : List (Addr × Obj)} {σ : L2.St} {H : Hp} {s : Shared}
/-- what was pinned is tracked from now on -/
theorem inv_track {a : Addr} {oe : Obj} {vs : Array Value} {cls : Value} {d : Option Addr} (I : Inv X ((a, oe) :: pins) σ H s) (z : Zc cls d oe) (dt : oe.data = .fields vs) (h0 : ∀ b o, X.s_0.heap.get? b = some o → b ≠ a)
    (hp : ∀ p ∈ X.pn ++ pins, p.1 ≠ a) : Inv X pins σ (upd H a (exK a cls d)) s := by
  obtain ⟨hget, hn, hL, hF, hC⟩ := I.pin (a, oe) (List.mem_append_right _ List.mem_cons_self)
  have out : ∀ {b : Addr} {o : HO}, H b = some o → b ≠ a := fun {b o} e q => by
    rw [q] at e
    rw [show H a = none from hn] at e
    cases e
  refine ⟨I.ok, I.os, I.bare, ⟨I.base.keep, I.base.slot, fun b o e n hx => ?_, I.base.there, fun b xs e => ?_, fun b o u e => ?_, fun b ps e => ?_⟩, I.loc, I.cell, ?_, fun x c e => ?_, fun p hq => ?_, fun b o e => ?_, I.len⟩
  · rw [upd_ne (h0 b o e)]
    exact I.base.free b o e n hx
  · have h := I.base.tups b xs e
    rw [upd_ne (out h)]
    exact h
  · have h := I.base.frzs b o u e
    rw [upd_ne (out h)]
    exact h
  · obtain ⟨more, h⟩ := I.base.tbls b ps e
    exact ⟨more, by rw [upd_ne (out h)]; exact h⟩
  · rw [upd_ne (Ne.symm hL)]
    exact I.free
  · have nc : c ≠ a := fun q => by
      obtain ⟨v, o, e1, e2⟩ := I.cell x c e
      rw [q, show s.heap.get? a = some oe from hget] at e1
      cases e1
      exact hC v e2
    rw [upd_ne nc]
    exact I.freeC x c e
  · obtain ⟨e1, e2, e3, e4, e5⟩ := I.pin p (by
      rcases List.mem_append.mp hq with h | h
      · exact List.mem_append_left _ h
      · exact List.mem_append_right _ (List.mem_cons_of_mem _ h))
    exact ⟨e1, by rw [upd_ne (hp p hq)]; exact e2, e3, e4, e5⟩
  · by_cases q : b = a
    · subst q
      rw [upd_same] at e
      cases e
      exact exK_ok hget z dt
    · rw [upd_ne q] at e
      exact (I.hok b o e).stay (fun _ _ _ r => r) (fun c r => by rw [upd_ne (out r)]; exact r) fun c xs r => by rw [upd_ne (out r)]; exact r
theorem inv_unsuiteP {a : Addr} {oe : Obj} {pn' : List (Addr × Obj)} (I : Inv (X.suite a ((a, oe) :: (X.pn ++ pins))) pn' σ H s) (ok : X.Ok) : Inv X ((a, oe) :: pins) σ H s :=
  ⟨ok, I.os, I.bare, I.base, I.loc, I.cell, I.free, I.freeC, fun p hp => I.pin p (List.mem_append_left _ (by
    rcases List.mem_append.mp hp with z | z
    · exact List.mem_cons_of_mem _ (List.mem_append_left _ z)
    · rcases List.mem_cons.mp z with z | z
      · exact z ▸ List.mem_cons_self
      · exact List.mem_cons_of_mem _ (List.mem_append_right _ z))), I.hok, I.len⟩
end
/-! ### names of classes -/
inductive NmL (X : Cx) : List Expr → List Value → Prop
  | nil : NmL X [] []
  | cons {x : PySem.Str} {p : Pos} {c : Value} {es : List Expr} {cs : List Value} (h : Names X x c) (r : NmL X es cs) : NmL X (.Name x p :: es) (c :: cs)
theorem NmL.length {X : Cx} {es : List Expr} {cs : List Value} (h : NmL X es cs) : cs.length = es.length := by
  induction h with
  | nil => rfl
  | cons _ _ ih => simp only [List.length_cons, ih]
theorem nm_run {X : Cx} {pins : List (Addr × Obj)} {σ : L2.St} {H : Hp} {s : Shared} {es : List Expr} {cs : List Value} {pos : Pos} {Q : List Value → Shared → Prop} {E : Value → Shared → Prop} (n : NmL X es cs) (I : Inv X pins σ H s) (q : Q cs s) :
    wpAny (model X.prog X.w) X.A (spliced (backTo pos (starEach es X.env))) Q E s := by
  induction n generalizing Q with
  | nil => exact args_nil q
  | @cons x p c es cs h r ih =>
    refine args_cons ?_ rfl
    have go : wpAny (model X.prog X.w) X.A (spliced (backTo pos (starEach es X.env))) (fun vs s2 => Q (c :: vs) s2) E s := ih q
    obtain ⟨hg, hdb, hm | ⟨hm, hv, hnn⟩⟩ := h
    · exact ld_glob I hg hm go hdb
    · exact ld_blt I hg hm hv go hnn hdb
theorem NmL.suite {X : Cx} {a : Addr} {pn : List (Addr × Obj)} {es : List Expr} {cs : List Value} (n : NmL X es cs) : NmL (X.suite a pn) es cs := by
  induction n with
  | nil => exact .nil
  | cons h _ ih => exact .cons h ih
/-- what flies flies on where the heap grows -/
theorem flying_push {B h : Heap} {l : List Env} {e : Addr} {Z : Obj → Prop} {o : Obj} (x : PySem.HandSPX.FlyingZ B l e Z h) : PySem.HandSPX.FlyingZ B l e Z (h.push o) := by
  obtain ⟨h1, h2, h3, oe, vs, T, oT, ts, e1, e2, e3, e4, e5, e6, e7, e8, e9⟩ := x
  exact ⟨fun b o' q => Heap.get?_push_of_some _ (h1 b o' q), h2, Heap.FunFrames.of_keeps (fun b o' q _ => ⟨o', Heap.get?_push_of_some _ q, rfl⟩) h3, oe, vs, T, oT, ts, Heap.get?_push_of_some _ e1, e2, e3, e4, e5, e6, Heap.get?_push_of_some _ e7, e8, e9⟩
/-! ### try: body / except (C1, C2, ..) as n: suite / ..; the error stays tracked -/
abbrev KTs := Addr → Value → Option Addr → TS
/-- the ends of such a suite -/
def kEnds (i : Nat) (D : Ends) (a : Addr) (cls : Value) (d : Option Addr) : Ends :=
  { nx := fun σ' H' => D.nx (σ'.set i none) (upd H' a (exK a cls d)), rt := fun _ _ => False, bk := fun _ _ => False, ct := fun _ _ => False }
def wKeep (K : PySem.W.Frag) (i : Nat) (D : Ends) : List (List Value × KTs) → WX
  | [] => fun _ _ _ _ => False
  | (cs, ts) :: r => fun cls d σ H => ∃ b, PySem.W.exmAny K cls cs = some b ∧ (b = true → ∀ a, H a = none → ts a cls d (kEnds i D a cls d) (σ.set i (some (.ref a))) H) ∧ (b = false → wKeep K i D r cls d σ H)
inductive KHds (X : Cx) (n : PySem.Str) : List ExceptHandler → List (List Value × KTs) → Prop
  | nil : KHds X n [] []
  | cons {es : List Expr} {cs : List Value} {ts : KTs} {b₀ : Stmt} {suite : List Stmt} {x1} {np pos' : Pos} {hds : List ExceptHandler} {l : List (List Value × KTs)} (hc : NmL X es cs) (hl : cs.length ≤ 100)
      (hsu : ∀ (a : Addr) (oe : Obj) (cls : Value) (d : Option Addr) (pn : List (Addr × Obj)), Zc cls d oe → (∃ vs, oe.data = .fields vs) → PSs (X.suite a ((a, oe) :: pn)) (b₀ :: suite) (ts a cls d)) (r : KHds X n hds l) :
      KHds X n (.ExceptHandler (some (.Tuple es x1 np)) (some n) (b₀ :: suite) pos' :: hds) ((cs, ts) :: l)
section
variable {X : Cx} {n : PySem.Str} {i : Nat} {body : List Stmt} {h₀ : ExceptHandler} {hds : List ExceptHandler} {l : List (List Value × KTs)} {pos : Pos} {tb : WX → TS}
theorem ps_try_keep (hex : X.ex = []) (hs : X.stack = X.env :: X.outer) (hf : X.env.frame = some X.env.locals) (hN : X.N.Nodup) (hi : X.N[i]? = some n) (hln : X.env.kindOf n = some .local)
    (hb : ∀ (W : WX) (pn : List (Addr × Obj)) (xe : Value → Shared → Prop), Takes (X.tr pn xe) W → PassesOwn (model X.prog X.w) X.A X.env xe → PSs (X.tr pn xe) body (tb W))
    (hh : KHds X n (h₀ :: hds) l) : PS X (.Try body (h₀ :: hds) [] [] pos) (fun D σ H => tb (wKeep X.K i D l) D σ H) := by
  refine ⟨fun pins s0 σ0 H0 D I start => ?_⟩
  have okX := I.ok
  have stk1 : X.A.frames = some (X.env :: X.outer) := by rw [okX.frames, hs]
  have isLoc : Loc X.env.scope n := .inl hln
  refine wpAny_Try_except ?_
  have R := (hb (wKeep X.K i D l) (X.pn ++ pins) (fun e s₁ => wpAny (model X.prog X.w) X.A (noteFrame e X.env) (fun _ s₂ => wpAny (model X.prog X.w) X.A (setFlight e none) (fun _ s₃ =>
    wpAny (model X.prog X.w) X.A (handleBy e X.env (h₀ :: hds)) (SP X pins D) X.xe s₃) X.xe s₂) X.xe s₁) (fun u sx air => ?_) PassesOwn.looking).run [] s0 σ0 H0 D (I.toTry _) start
  · refine wpAny_mono R (fun f s1 done => ?_) (fun e s1 he => he)
    cases f with
    | next =>
      obtain ⟨σg, Hg, Jt, q⟩ := done
      exact wpAny_execs_nil ⟨σg, Hg, Jt.ofTry okX, q⟩
    | brk =>
      obtain ⟨σg, Hg, Jt, q⟩ := done
      exact ⟨σg, Hg, Jt.ofTry okX, q⟩
    | cont =>
      obtain ⟨σg, Hg, Jt, q⟩ := done
      exact ⟨σg, Hg, Jt.ofTry okX, q⟩
    | ret u =>
      obtain ⟨v, σg, Hg, Jt, r, q⟩ := done
      exact ⟨v, σg, Hg, Jt.ofTry okX, r, q⟩
  · -- what is caught
    obtain ⟨a, B, sG, pinsG, σg, Hg, cls, d, rfl, Jt, grnd, up, sky, aNone, os, ag, w⟩ := air
    have J : Inv X pins σg Hg sG := Jt.ofTry okX
    rw [show (X.tr (X.pn ++ pins) _).stack = X.env :: X.outer from hs] at sky
    show wpAny (model X.prog X.w) X.A (noteFrame (.ref a) X.env) _ _ _
    refine Sky.land Zc.steady stk1 hf sky fun h3 fly3 up3 => ?_
    have Ba : B.get? a = none := fly3.2.1
    have frees : ∀ b o, sG.heap.get? b = some o → b ∉ frs X.stack → b ≠ a := fun b o e hb q => by
      have z := grnd b o e hb
      rw [q, Ba] at z
      cases z
    have aFr : ∀ {h : Heap}, PySem.HandSPX.FlyingZ B (X.env :: X.outer) a (Zc cls d) h → a ∉ frs (X.env :: X.outer) := fun {h} fl mem => by
      obtain ⟨oe, vs, e1, _, e3⟩ := fl.there
      obtain ⟨_, o', e', hnf⟩ := fl.2.2.1.mem mem
      rw [e1] at e'
      cases e'
      exact hnf _ e3
    have aStack := aFr fly3
    have aLoc : a ≠ X.env.locals := fun z => aStack (List.mem_filterMap.mpr ⟨X.env, List.mem_cons_self, by rw [hf, z]⟩)
    have aOuter : a ∉ X.fs := fun mem => by
      obtain ⟨e, he, q⟩ := List.mem_filterMap.mp mem
      exact aStack (List.mem_filterMap.mpr ⟨e, List.mem_cons_of_mem _ he, q⟩)
    have nS : a ∉ frs X.stack := by rw [hs]; exact aStack
    have h0 : ∀ b o, X.s_0.heap.get? b = some o → b ≠ a := fun b o e q => by
      obtain ⟨o', e'⟩ := J.base.there b o e (by rw [hex]; exact fun z => nomatch z)
      rw [q] at e'
      exact frees a o' e' nS rfl
    have hpn : ∀ p ∈ X.pn ++ pins, p.1 ≠ a := fun p hp q => by
      obtain ⟨e1, _⟩ := J.pin p hp
      rw [q] at e1
      exact frees a _ e1 nS rfl
    -- the clauses, one after the other
    have go : ∀ {hds' : List ExceptHandler} {l' : List (List Value × KTs)}, KHds X n hds' l' → wKeep X.K i D l' cls d σg Hg →
        ∀ h4 : Heap, PySem.HandSPX.FlyingZ B (X.env :: X.outer) a (Zc cls d) h4 → sx.heap.UpToSlots h4 → wpAny (model X.prog X.w) X.A (handleBy (.ref a) X.env hds') (SP X pins D) X.xe { sx with heap := h4 } := by
      intro hds' l' hk
      induction hk with
      | nil => exact fun w => w.elim
      | @cons es cs ts b₀ suite x1 np pos' hdsR l2 hc hl hsu r ih =>
        intro w h4 fly4 up4
        obtain ⟨b, any1, whenYes, whenNo⟩ := w
        obtain ⟨oe4, vs4, at4, hz4, hd4⟩ := fly4.there
        have J4 : Inv X pins σg Hg { sx with heap := h4 } := J.landed grnd fly4.1 (up.trans up4) os ag
        have Su4 := J4.suite at4 hd4 aNone aLoc aOuter
        refine wpAny_handleBy_cons (codeAny_handlers_test ?_) (by intro q; cases q)
        refine wpAny_Tuple_spliced (nm_run (X := X.suite a ((a, oe4) :: (X.pn ++ pins))) hc.suite Su4 ⟨by rw [sizeLine_eq]; omega, ?_⟩)
        have fly5 := flying_push (o := { cls := .type "tuple", data := .seq cs.toArray }) fly4
        have up5 : sx.heap.UpToSlots (h4.push { cls := .type "tuple", data := .seq cs.toArray }) := up4.trans (Heap.UpToSlots.of_keeps fun b o e => Heap.get?_push_of_some _ e)
        have he5 : (h4.push { cls := .type "tuple", data := .seq cs.toArray }).get? a = some oe4 := Heap.get?_push_of_some _ at4
        have J5 : Inv X pins σg Hg { sx with heap := h4.push { cls := .type "tuple", data := .seq cs.toArray } } := J.landed grnd fly5.1 (up.trans up5) os ag
        have LT : PySem.W.Looks (model X.prog X.w) (h4.push { cls := .type "tuple", data := .seq cs.toArray }) (typeOf (.ref a)) cls := fun A Q E s k q => wpAny_typeOf_ref (k _ _ he5) (by rw [hz4.1]; exact q)
        have LM := exmN (M := model X.prog X.w) J5.kIn LT (Heap.get?_push_size _ rfl) any1
        refine LM.here ?_
        cases b with
        | true =>
          refine codeAny_handlers_suite_as ?_
          refine PySem.HandSPX.lands_againZ fly5 fun h6 fly6 up6 => ?_
          have J6 : Inv X pins σg Hg { sx with heap := h6 } := J.landed grnd fly6.1 ((up.trans up5).trans up6) os ag
          obtain ⟨oe6, vs6, he6, hz6, hd6⟩ := fly6.there
          have S6 := J6.suite he6 hd6 aNone aLoc aOuter
          refine store_ok (X := X.suite a ((a, oe6) :: (X.pn ++ pins))) (v := .ref a) S6 hN hi isLoc rfl (fun s7 S7 => ?_) (.inr hln)
          refine wpAny_mono ((hsu a oe6 cls d (X.pn ++ pins) hz6 ⟨_, hd6⟩).run [] s7 _ Hg _ S7 (whenYes rfl a aNone)) (fun f s8 done => ?_) (fun _ _ z => False.elim z)
          cases f with
          | next =>
            obtain ⟨σ8, H8, S8, q8⟩ := done
            refine gone_ok (inv_unsuiteP S8 okX) hN hi hln fun s9 J9 => ⟨_, _, inv_track J9 hz6 hd6 h0 hpn, q8⟩
          | brk =>
            obtain ⟨_, _, _, z⟩ := done
            exact z.elim
          | cont =>
            obtain ⟨_, _, _, z⟩ := done
            exact z.elim
          | ret u =>
            obtain ⟨_, _, _, _, _, z⟩ := done
            exact z.elim
        | false =>
          show wpAny _ X.A (handleBy (.ref a) X.env hdsR) _ _ _
          exact ih (whenNo rfl) _ fly5 up5
    exact go hh w h3 fly3 up3
end
end Un

set_option maxRecDepth 100000
set_option maxHeartbeats 4000000
namespace Un
open PySem PySem.Spec PyProof.Rows L2
/-! ### a held error: its class, its fields -/
def XdAt (H : Hp) : Option Addr → Prop
  | none => True
  | some dd => ∃ fs, H dd = some (.xd fs)
section
variable {P : Program} {w : World} {H : Hp} {h : Heap} {a D : Addr} {d : Option Addr}
theorem held_inst (hok : HOk P w H h) (e : H a = some (exK a (.ref D) d)) (ed : XdAt H d) : ∃ ox od, PySem.W.InstAt h a ox D od := by
  obtain ⟨oe, vs, h1, ⟨h2, h3⟩, h4⟩ := exK_at hok e
  have no : PySem.W.notCls oe = true := by
    unfold PySem.W.notCls
    rw [h4]
  cases d with
  | none => exact ⟨oe, none, h1, h2, no, by rw [h3]; trivial⟩
  | some dd =>
    obtain ⟨fs, hd⟩ := ed
    have x : ObjOk P w H h dd (.xd fs) := hok dd _ hd
    obtain ⟨mA, hns, _⟩ := x
    obtain ⟨o1, ho, _⟩ := lookIn_ns hns
    exact ⟨oe, some o1, h1, h2, no, by rw [h3]; exact ho⟩
end
/-- isinstance(e, c), e a held error -/
def rIsK (K : PySem.W.Frag) : List V → Hp → VK → Prop := fun xs H Q => ∃ (a D : Addr) (d : Option Addr) (c : V) (cv : Value) (b : Bool), xs = [.ref a, c] ∧ H a = some (exK a (.ref D) d) ∧ XdAt H d ∧ ExcC K D ∧ ClsV c cv ∧ PySem.W.kitOne K (.ref D) cv = some b ∧ Q (.bl b) H
theorem call_isK {X : Cx} : CallR X (.builtin "isinstance") (rIsK X.K) := by
  intro pins s σ H xs us Q I r h
  obtain ⟨a, D, d, c, cv, b, rfl, ha, hd, C, hc, e, q⟩ := h
  obtain ⟨u1, u2, rfl, r1, r2⟩ := vals2 r
  have e2 := hc.eq r2
  subst e2
  obtain rfl : u1 = Value.ref a := r1
  obtain ⟨ox, od, J⟩ := held_inst I.hok ha hd
  obtain ⟨cd, hcd, _⟩ := PySem.W.any_some C.hd
  exact PySem.W.kia_one (PySem.W.kitx_exc (by rw [hcd]; rfl) C.hg C.hk C.hs C.ha C.hn C.ht C.hm) I.kIn J e (fun z => nomatch z) fun tk => ⟨.bl b, H, I.tok tk, rfl, q⟩
/-- e.f, e a held error -/
def tXk (K : PySem.W.Frag) (f : PySem.Str) (te : TE) : TE := fun σ H Q => te σ H fun x H1 => ∃ (a D dd : Addr) (fs : List (PySem.Str × V)) (v : V), x = .ref a ∧ H1 a = some (exK a (.ref D) (some dd)) ∧ H1 dd = some (.xd fs) ∧ ExcC K D ∧
  PySem.W.findIn K (.ref D) f = some none ∧ fs.lookup f = some v ∧ Q v H1
theorem pe_xk {X : Cx} {e : Expr} {te : TE} {pos : Pos} {n : PySem.Str} (he : PE X e te) (hb : attributeBase e n X.env (eval e X.env) = eval e X.env := by rfl) : PE X (.Attribute e n pos) (tXk X.K n te) := by
  refine ⟨fun pins s σ H Q I h => ?_⟩
  refine attr_of hb (thn (he.run pins s σ H _ I h) fun u s1 hh => ?_)
  obtain ⟨x, H1, I1, rx, a, D, dd, fs, v, rfl, ha, hd, C, hno, hl, q⟩ := hh
  obtain rfl : u = Value.ref a := rx
  obtain ⟨oe, vs, h1, ⟨h2, h3⟩, h4⟩ := exK_at I1.hok ha
  have z : ObjOk X.prog X.w H1 s1.heap dd (.xd fs) := I1.hok dd _ hd
  obtain ⟨mA, hns, hr⟩ := z
  obtain ⟨o1, ho, hlk⟩ := lookIn_ns hns
  obtain ⟨y, hy, ry⟩ := RelO.some_of (v := v) (o := mA n) (by rw [← hl]; exact hr n)
  have J : PySem.W.InstAt s1.heap a oe D (some o1) := ⟨h1, h2, by unfold PySem.W.notCls; rw [h4], by rw [h3]; exact ho⟩
  refine HandSPX.exc_get I1.kIn J C.hg C.hk C.hs (PySem.W.findObj_own C.hd hno rfl (by rw [hlk, hy])) (handed_of ry) ⟨v, H1, I1.tok _, ry, q⟩
end Un

set_option maxRecDepth 100000
set_option maxHeartbeats 4000000
namespace PySem
namespace LkX
open PySem.W PySem.Calls PyProof.Rows PySem.HandSPX
abbrev lkT : List Value := [.type "LookupError", .type "Exception", .type "BaseException", .type "object"]
section
open Builtin Builtin.ObjectAttr
variable {prog : Program} {w : World} {A : Around} {R : Result → Shared → Prop} {hh : Heap} {gg : Array GenState} {dw : Drawn} {tt : Nat} {oo : OsState}
/-- the first field of an error over LookupError -/
theorem lk_store {Kf : W.Frag} {nam : Str} {tk : Tok} {v : Value} {e D : Addr} {fv : Array Value} {cl : ClassData} (kin : Kf.In hh) (he : hh.get? e = some { cls := .ref D, data := .fields fv }) (hcl : W.clsIn Kf D = some cl) (hmro : cl.mro = .ref D :: lkT)
    (hdict : cl.hasDict = true) (hno : W.findIn Kf (.ref D) nam = some none)
    (fin : ∀ h2 tk2 dx, (∀ b o, b ≠ e → hh.get? b = some o → h2.get? b = some o) → hh.objs.size ≤ dx → dx ≠ e → h2.get? e = some { cls := .ref D, dict := some dx, data := .fields fv } → h2.Ns1 dx (fun y => if y = nam then some v else none) →
      R (.ok (.ret .none)) ⟨h2, gg, dw, tk2, oo⟩) : codeAny (model prog w) A (.call (.builtin "object.__setattr__") ⟨[.ref e, .str nam tk, v], []⟩) R ⟨hh, gg, dw, tt, oo⟩ := by
  have J : W.InstAt hh e { cls := .ref D, data := .fields fv } D none := ⟨he, rfl, rfl, trivial⟩
  have S := F.store_object
  have inObj : cl.mro.contains (.type "object") = true := by
    rw [hmro, List.contains_cons, show PySem.LkX.lkT.contains (.type "object") = true by decide +kernel, Bool.or_true]
  have notE : cl.mro.isEmpty = false := by rw [hmro]; rfl
  have e_ne : e ≠ hh.objs.size := Nat.ne_of_lt (Heap.lt_size he)
  have isObj : W.Looks (model prog w) hh (isInstance (.ref e) (.type "object")) true := J.type.andThen (W.looks_mroIn kin (by unfold W.mroIn; rw [hcl, Option.bind_some, if_neg (by rw [notE]; decide), inObj]))
  refine codeAny_call_builtin S.slot.plain S.entry (@W.check_slot (model prog w) _ _ ⟨hh, gg, dw, tt, oo⟩ "object.__setattr__" "object" "__setattr__" (.ref e) [.str nam tk, v] [] _ S.kind S.split isObj (S.args (.ref e) (.str nam tk) v) ?_)
  have lookMro : W.Looks (model prog w) hh (mroOf (.ref D)) cl.mro := (W.looks_clsIn kin hcl).andThen .now
  have noTaker : W.Looks (model prog w) hh (storeTaker? none) none := .now
  have lookCls : W.Looks (model prog w) hh (classData D) cl := W.looks_clsIn kin hcl
  have passes : refuseLoop (.ref e) "__setattr__" cl.mro = pure () := by
    rw [hmro, refuseLoop_ref]
    exact F.store_LookupError.passes (.ref e)
  rw [W.osa_eq, refuse_eq]
  refine wpAny_bind (wpAny_bind (J.type.at (wpAny_bind (lookMro.at ?_))))
  rw [passes]
  refine wpAny_pure (wpAny_bind (J.type.at (wpAny_bind ((W.looks_findIn kin hno).at (wpAny_bind (noTaker.at ?_))))))
  show wpAny _ _ (storeInOwnDict (.ref e) (.ref D) (.str nam tk) nam v false) _ _ _
  obtain ⟨c1, c2, c3, c4, c5, c6, c7, c8, c9, c10, c11⟩ := cl
  dsimp only at hdict
  subst hdict
  unfold storeInOwnDict ownDictForStores
  repeat (first | with_reducible refine HandSPX.store_in_new ?_ ?_ | with_reducible refine wpAny_loadPart_at he ?_ | with_reducible refine lookCls.at ?_ | wp_step)
  · exact ⟨_, #[], _, (Heap.get?_update_ne _ _ _ _ e_ne.symm).trans (Heap.get?_push_at rfl rfl), rfl, fun x hx => absurd hx (by simp), fun _ => rfl⟩
  · intro h2 tk2 hns sb
    have e_on : (hh.push { cls := .type "dict", data := .dict #[] }).get? e = some { cls := .ref D, data := .fields fv } := Heap.get?_push_of_some _ he
    refine fin h2 tk2 hh.objs.size (fun b o nb hb => ?_) (Nat.le_refl _) e_ne.symm ?_ hns
    · exact (sb.2 b (Nat.ne_of_lt (Heap.lt_size hb))).trans ((Heap.get?_update_ne _ _ _ _ nb).trans (Heap.get?_push_of_some _ hb))
    · exact (sb.2 e e_ne).trans (Heap.get?_update_self _ e_on rfl)
end
end LkX
end PySem
namespace Un
open PySem PySem.Spec PyProof.Rows L2
/-- what the written part says of an error's class over LookupError -/
structure OexL (K : PySem.W.Frag) (C : Addr) : Prop where
  cls : ∃ nm q N bs sn sub ab col dd k0 k1 k2 k3 k5, K.lookup C = some (excClassObj nm q C N bs PySem.LkX.lkT true sn sub ab col dd k0 k1 k2 k3 k5 "LookupError.__new__")
  sa : PySem.W.findIn K (.ref C) "__setattr__" = some (some (.builtin "object.__setattr__"))
  exC : PySem.W.subIn K (.ref C) (.type "BaseException") = some true
  tyC : PySem.W.typeIn K (.ref C) = some (.type "type")
  kC : PySem.W.keepIn K (.ref C) = true
section
variable {X : Cx} {pins : List (Addr × Obj)} {σ : L2.St} {H : Hp} {s : Shared} {a C dx : Addr} {f : PySem.Str} {y : V} {u : Value} {fs : List (PySem.Str × V)} {Q : Unit → Shared → Prop} {E : Value → Shared → Prop} {A : Around}
/-- self.f = y -/
theorem ostL (T : OexL X.K C) (I : Inv X pins σ H s) (e : H a = some (exo a C none)) (hno : PySem.W.findIn X.K (.ref C) f = some none) (ry : RelV y u)
    (fin : ∀ dx s', H dx = none → dx ≠ a → Inv X pins σ (upd (upd H dx (exd dx [(f, y)])) a (exo a C (some dx))) s' → Q () s') : wpAny (model X.prog X.w) A (setAttr (.ref a) f u) Q E s := by
  obtain ⟨nm, q, N, bs, sn, sub, ab, col, dd, k0, k1, k2, k3, k5, hC⟩ := T.cls
  have clsC : PySem.W.clsIn X.K C = some { name := nm, bases := bs, mro := .ref C :: PySem.LkX.lkT, ns := N, qualname := q, hasDict := true, slotNames := sn, subclasses := sub, abstract := ab, collection := col, hasDel := false } := by
    unfold PySem.W.clsIn
    rw [hC] <;> rfl
  obtain ⟨tup1, atE⟩ := exo_at I.hok e
  obtain ⟨hp, g, d, t, os⟩ := s
  refine PySem.W.set_plain I.kIn (ox := { cls := .ref C, dict := none, data := .fields #[.ref tup1, .none, .none, .none, .bool false, .none] }) (od := none) ⟨atE, rfl, rfl, trivial⟩ T.sa ?_
  refine PySem.LkX.lk_store I.kIn atE clsC rfl rfl hno (fun h' tk' dx k dn dne hx hn => ?_)
  have n0 : H dx = none := I.hok.fresh dn
  have nd : ∀ {b : Addr} {o : Obj}, hp.get? b = some o → b ≠ dx := fun {b o} z => Nat.ne_of_lt (Nat.lt_of_lt_of_le (Heap.lt_size z) dn)
  have notA : ∀ {b : Addr}, H b = none → b ≠ a := fun {b} n z => by
    rw [z, e] at n
    cases n
  have U : Un X.fs [] H (upd (upd H dx (exd dx [(f, y)])) a (exo a C (some dx))) hp h' := {
    keep := fun b o z n _ _ => k b o (notA n) z
    slot := fun b o z n _ _ => ⟨o.slots, k b o (notA n) z⟩
    free := fun b o z n _ => by
      rw [upd_ne (notA n), upd_ne (nd z)]
      exact n
    there := fun b o z _ => by
      by_cases hb : b = a
      · exact ⟨_, by rw [hb]; exact hx⟩
      · exact ⟨o, k b o hb z⟩
    tups := fun b xs z => by
      rw [upd_ne (at_ne e z exo_tup), upd_ne (ne_of_none z n0)]
      exact z
    frzs := fun b o v z => by
      rw [upd_ne (at_ne e z exo_frz), upd_ne (ne_of_none z n0)]
      exact z
    tbls := fun b ps z => ⟨#[], by
      rw [upd_ne (at_ne e z exo_tbl), upd_ne (ne_of_none z n0), z]
      simp⟩ }
  refine fin dx _ n0 dne (I.un (t' := tk') U fun b o z => ?_)
  by_cases hb : b = a
  · subst hb
    rw [upd_same] at z
    cases z
    exact exo_ok hx
  · rw [upd_ne hb] at z
    by_cases hd : b = dx
    · subst hd
      rw [upd_same] at z
      cases z
      exact exd_ok hn (relO_put (fs := []) ry fun g => True.intro)
    · rw [upd_ne hd] at z
      refine (I.hok b o z).stay (fun c v hc r => k c v (by
          rcases hc with hc | hc
          · rw [hc]
            exact hb
          · exact at_ne e hc exo_own) r) (fun c hc => ?_) (fun c xs hc => ?_)
      · rw [upd_ne (at_ne e hc exo_own), upd_ne (ne_of_none hc n0)]
        exact hc
      · rw [upd_ne (at_ne e hc exo_tup), upd_ne (ne_of_none hc n0)]
        exact hc
theorem oinitL {us : List Value} {Q : Value → Shared → Prop} (T : OexL X.K C) (I : Inv X pins σ H s) (e : H a = some (exo a C none)) (hl : us.length ≤ sizeLine) (fin : ∀ s', Inv X pins σ H s' → Q .none s') :
    wpAny (model X.prog X.w) A (call (.builtin "LookupError.__init__") (.ref a :: us)) Q E s := by
  obtain ⟨nm, q, N, bs, sn, sub, ab, col, dd, k0, k1, k2, k3, k5, hC⟩ := T.cls
  obtain ⟨tup1, atE⟩ := exo_at I.hok e
  obtain ⟨hp, g, d, t, os⟩ := s
  refine wpAny_call (PySem.HandSPX.init_base F.excBase_LookupError (fun _ => rfl) (I.kIn _ _ hC) atE hl fun h' t2 k hx => ?_)
  have J := I.write (t' := t) (x := a) (e := a) (o := exo a C none) (by rw [e]; exact True.intro) (.inl rfl) k ⟨_, hx⟩ (exo_ok hx)
  rw [show upd H a (exo a C none) = H from funext fun b => by
    by_cases hb : b = a
    · rw [hb, upd_same, e]
    · rw [upd_ne hb]] at J
  exact fin _ J
end
def tLeI (K : PySem.W.Frag) (ta : TA) : TE := fun σ H Q => ta σ H fun vs Ha => ∃ (a C : Addr) (ws : List V), vs = .ref a :: ws ∧ ws.length ≤ 1000 ∧ OexL K C ∧ Ha a = some (exo a C none) ∧ Q .non Ha
def tOstL (K : PySem.W.Frag) (f : PySem.Str) (to te : TE) : TS := fun D σ H => te σ H fun y Ha => to σ Ha fun x H2 => ∃ a C : Addr, x = .ref a ∧ OexL K C ∧ PySem.W.findIn K (.ref C) f = some none ∧ H2 a = some (exo a C none) ∧
  ∀ dx, H2 dx = none → dx ≠ a → D.nx σ (upd (upd H2 dx (exd dx [(f, y)])) a (exo a C (some dx)))
section
variable {X : Cx} {o e : Expr} {es : List Expr} {to te : TE} {ta : TA} {f : PySem.Str} {p p' p1 p2 pos : Pos}
theorem pe_leinit {pl : Sem Bool} (hg : Gl X "LookupError") (hm : X.mg "LookupError" = none) (vV : PySem.W.findCls X.K (.type "LookupError") (.type "type") "__init__" = some (.val (.builtin "LookupError.__init__"))) (hty : typeOf (.type "LookupError") = pure (.type "type")) (ha : PA X (e :: es) ta)
    (hc : eval (.Call (.Attribute (.Name "LookupError" p1) "__init__" p2) (e :: es) [] pos) X.env = (do
      let it ← eval (.Name "LookupError" p1) X.env
      standAt p2.atName
      let (m, own) ← holding [it] (getMethod it "__init__" pl)
      callWith pos m own (backTo pos (starEach (e :: es) X.env)) (backToKw pos (keywordEach [] X.env))) := by rfl)
    (hse : starEach (e :: es) X.env = (false, eval e X.env) :: starEach es X.env := by rfl) (hpl : (backTo pos (starEach es X.env)).any (·.1) = false := by rfl) :
    PE X (.Call (.Attribute (.Name "LookupError" p1) "__init__" p2) (e :: es) [] pos) (tLeI X.K ta) := by
  refine ⟨fun pins s σ H Q I h => ?_⟩
  refine PySem.W.methodCall_KW (ld_blt I hg hm PyProof.Rows.Boot.«LookupError» ?_ (by decide) (by decide)) hc
  obtain ⟨m, fr⟩ := I.fr
  refine PySem.W.method_type fr I.ok.mod.kin hty (by decide +kernel) vV (by decide +kernel) ?_
  show wpAny _ _ (callWith pos (Value.builtin "LookupError.__init__") [] (backTo pos (starEach (e :: es) X.env)) []) _ _ _
  refine PyProof.Rows.callWith_method1 (thn (ha.run pos pins _ σ H _ (I.tok _) h) fun us sa1 hx => ?_) hse hpl
  obtain ⟨vs, Ha, Ia, r1, a, C, ws, rfl, hl, T, ea, q⟩ := hx
  cases r1 with
  | @cons _ uF _ ur ra rw' =>
    obtain rfl : uF = Value.ref a := ra
    refine oinitL T Ia ea ?_ fun s' J => ⟨.non, Ha, J, rfl, q⟩
    rw [← Paired.length rw', sizeLine_eq]
    omega
theorem ps_ostL (ho : PE X o to) (he : PE X e te) (hs : swapsWith e (some (.Attribute o f p')) pos.line X.env = pure false := by rfl) : PS X (.Assign [.Attribute o f p'] e pos) (tOstL X.K f to te) := by
  refine ⟨fun pins s σ H D I h => ?_⟩
  refine plainObj_wpAny_Assign_Attribute (thn (he.run pins s σ H _ I h) fun v sa1 ⟨y, Ha, Ia, r1, q1⟩ => thn (ho.run pins sa1 σ Ha _ Ia q1) fun u s2 ⟨x, H2, I2, rB, a, C, ex, T, hno, ea, q⟩ => ?_) hs
  subst ex
  obtain rfl : u = Value.ref a := rB
  exact ostL T I2 ea hno r1 fun dx s' n ne J => ⟨σ, _, J, q dx n ne⟩
theorem pmk_oexL {CT : CXT} {x : PySem.Str} {C fI : Addr} {k : Nat} {fd : FuncData} {ps : List PySem.Str} {sp : Sp} {ds : List Value} {dvs : List V} (T : OexL X.K C) (iC : PySem.W.findIn X.K (.ref C) "__init__" = some (some (.ref fI))) (tI : PySem.W.typeIn X.K (.ref fI) = some (.type "function"))
    (F1 : FnOk X.prog X.w X.K X.mg X.base CT k fI fd ps sp) (hr : Room (k + 1) X.A) (hb : Binds X.K fd ps ds) (hd : Vals dvs ds) (hx : Passes CT X (fun _ _ _ => False)) (hg : Gl X x) (hm : X.mg x = some (.ref C)) (ha : PA X (e :: es) ta)
    (hdb : (x == ("__debug__" : PySem.Str)) = false := by decide) (hse : starEach (e :: es) X.env = (false, eval e X.env) :: starEach es X.env := by rfl) (hpl : (backTo pos (starEach es X.env)).any (·.1) = false := by rfl) :
    PMk X (.Call (.Name x p) (e :: es) [] pos) (tMkO C sp dvs ta) := by
  intro pins s σ H Q I h
  obtain ⟨nm, q, N, bs, sn, sub, ab, col, dd, k0, k1, k2, k3, k5, hC⟩ := T.cls
  refine wpAny_Call_Name_kw (ld_glob I hg hm ?_ hdb)
  refine PySem.W.callWith_K (h₀ := X.base) I.ok.mod.kin T.kC (thn (ha.run pos pins s σ H _ I h) fun us sa1 ⟨vs, Ha, Ia, r1, hz, q1⟩ => ⟨Ia.kIn, ?_⟩) hse hpl
  show wpAny _ _ (call (.ref C) us) _ _ _
  obtain ⟨hp, g, dr, tk, os⟩ := sa1
  have le1 : hp.objs.size ≤ hp.objs.size + 1 := Nat.le_succ _
  have n1 : Ha (hp.objs.size + 1) = none := Ia.hok.fresh le1
  have q2 := q1 (hp.objs.size + 1) n1
  have grow : ∀ b o, hp.get? b = some o → ((hp.push (PySem.W.kdv_tup us)).push (PySem.HandSPX.excO C hp.objs.size)).get? b = some o := fun b o z => Heap.get?_push_of_some _ (Heap.get?_push_of_some _ z)
  have there : ((hp.push (PySem.W.kdv_tup us)).push (PySem.HandSPX.excO C hp.objs.size)).get? (hp.objs.size + 1) = some (PySem.HandSPX.excO C hp.objs.size) := by heap_get
  have I2 := Ia.laid (t' := tk) (a := hp.objs.size + 1) (o := exo (hp.objs.size + 1) C none) (h' := (hp.push (PySem.W.kdv_tup us)).push (PySem.HandSPX.excO C hp.objs.size)) grow le1 (exo_ok there)
  have rB : Vals (V.ref (hp.objs.size + 1) :: (vs ++ dvs)) (Value.ref (hp.objs.size + 1) :: (us ++ ds)) := .cons rfl (r1.append hd)
  have hl : (Value.ref (hp.objs.size + 1) :: us ++ ds).length = ps.length := (rB.length.symm).trans (F1.len _ _ _ _ q2)
  have lenU : us.length ≤ sizeLine := by
    rw [← Paired.length r1, sizeLine_eq]
    omega
  refine wpAny_call (PySem.HandSPX.call_own F.excBase_LookupError (fun _ => rfl) (Ia.kIn _ _ hC) (PySem.W.looks_findIn Ia.kIn iC) (fun self => PySem.W.bind_fn Ia.kIn self tI) lenU ?_)
  refine codeAny_mono (F1.run _ X.stack _ _ ⟨Value.ref (hp.objs.size + 1) :: us, []⟩ (Value.ref (hp.objs.size + 1) :: (us ++ ds)) _ _ (fun _ _ _ => False) (hr.make C us []) (I2.env0.make C us []) (hb _ (Value.ref (hp.objs.size + 1) :: us) I2.kIn hl) rB q2) fun r s' hq' => ?_
  match r, hq' with
  | .error er, z => exact hx pins σ _ _ er s' I2 z
  | .ok (.ret u), z =>
    obtain ⟨v, H2, os2, bare2, un2, hok2, rv, ev, d, fs, ea, ed, hd1, q3⟩ := z
    subst ev
    obtain ⟨hE2, g2, d2, t2, osE⟩ := s'
    exact ⟨rv, mk_end (raises_own T.exC T.tyC) Ia le1 grow un2 hok2 os2 bare2 ea ed hd1 q3⟩
  | .ok .next, z => exact z.elim
  | .ok .brk, z => exact z.elim
  | .ok .cont, z => exact z.elim
end
end Un

set_option maxRecDepth 100000
set_option maxHeartbeats 8000000
namespace Un
open PySem PySem.Spec PyProof.Rows L2
/-! ### sum(rows, []): lists put one behind the other -/
section
variable {prog : Program} {w : World} {A : Around} {R : Result → Shared → Prop} {I : Addr} {fp wr : List Addr} {n : Nat} {P : Nat → Value → Prop} {St : Nat → Heap → Prop}
/-- the rows from the i-th on, k of them -/
def catR (rows : Nat → Array Value) : Nat → Nat → Array Value
  | _, 0 => #[]
  | i, k + 1 => rows i ++ catR rows (i + 1) k
theorem code_sumL (Wk : Walks prog w A.in1 I fp wr n P St) (loc : Nat → Addr) (rows : Nat → Array Value) (cnt : Nat → Nat) (hv : ∀ i v, P i v → v = .ref (loc i)) (S : Addr) (nS : S ∉ fp) (hSt : ∀ i h, St i h → ∀ b ∈ fp, b < h.objs.size) :
    ∀ (k i : Nat) (s : Shared) (cur : Addr) (acc : Array Value) (m c : Nat), n - i = k → i ≤ n → St i s.heap →
      s.heap.get? S = some { cls := .type "list", dict := none, data := .seq #[.ref cur] c, slots := #[] } → IsL s.heap cur acc m →
      (∀ j, i ≤ j → j < n → IsL s.heap (loc j) (rows j) (cnt j) ∧ loc j ≠ S ∧ loc j ∉ wr) → cur ≠ S → cur ∉ wr → acc.size + (catR rows i k).size ≤ sizeLine →
      (∀ h' tk p m', (∀ b o, b ∉ wr → b ≠ S → s.heap.get? b = some o → h'.get? b = some o) → IsL h' p (acc ++ catR rows i k) m' → (k = 0 → p = cur) → (0 < k → S < p) → R (.ok (.ret (.ref p))) { s with heap := h', toks := tk }) →
      codeAny (model prog w) A (.builtin "sum.loop" ⟨[.ref I, .ref S, rawInt 2, rawInt 0], []⟩) R s := by
  have nSw : S ∉ wr := fun z => nS (Wk.sub _ z)
  intro k
  induction k with
  | zero =>
    intro i s cur acc m c e1 e2 st hS hc _ ne nw _ fin
    obtain rfl : i = n := by omega
    refine codeAny_builtin F.entry_sum_loop ?_
    rw [Around.under_plainId F.plain_sum_loop _]
    show wpAny _ A.in1 (seqItems? (.ref S) >>= _) _ _ s
    refine wpAny_bind (wpAny_seqItems hS rfl ?_)
    show wpAny _ A.in1 (tryCatch (pyNext (.ref I)) _ >>= _) _ _ s
    refine wpAny_bind (wpAny_tryCatch (Wk.done s _ _ st fun h' tk kp => ?_))
    refine wpAny_pure (fin h' tk cur m (fun b o hb _ e => kp b o hb e) ?_ (fun _ => rfl) fun z => absurd z (Nat.lt_irrefl 0))
    rw [show acc ++ catR rows i 0 = acc by unfold catR; simp]
    exact kp cur _ nw hc
  | succ k ih =>
    intro i s cur acc m c e1 e2 st hS hc hrow ne nw hz fin
    have lt : i < n := by omega
    refine codeAny_builtin F.entry_sum_loop ?_
    rw [Around.under_plainId F.plain_sum_loop _]
    show wpAny _ A.in1 (seqItems? (.ref S) >>= _) _ _ s
    refine wpAny_bind (wpAny_seqItems hS rfl ?_)
    show wpAny _ A.in1 (tryCatch (pyNext (.ref I)) _ >>= _) _ _ s
    refine wpAny_bind (wpAny_tryCatch (Wk.item i s _ _ lt st fun v h' tk hp st' kp => ?_))
    obtain rfl := hv i v hp
    obtain ⟨r1, r2, r3⟩ := hrow i (Nat.le_refl _) lt
    have hS1 := kp S _ nSw hS
    have hc1 : IsL h' cur acc m := kp cur _ nw hc
    have hr1 : IsL h' (loc i) (rows i) (cnt i) := kp _ _ r3 r1
    have hz2 : (acc ++ rows i).size + (catR rows (i + 1) k).size ≤ sizeLine := by
      have e : catR rows i (k + 1) = rows i ++ catR rows (i + 1) k := rfl
      rw [e, Array.size_append] at hz
      rw [Array.size_append]
      omega
    have hz1 : acc.size + (rows i).size ≤ sizeLine := by
      rw [Array.size_append] at hz2
      omega
    show wpAny _ A.in1 ((holding [Value.ref (loc i)] (binaryOp .Add (.ref cur) (.ref (loc i)))).attempt >>= _) _ _ _
    refine wpAny_bind (wpAny_attempt (wpAny_holding (PySem.P.add_list (s := { s with heap := h', toks := tk }) hc1 hr1 ?_ hz1)))
    have hS2 : (h'.push { cls := .type "list", data := .seq (acc ++ rows i) }).get? S = some { cls := .type "list", dict := none, data := .seq #[.ref cur] c, slots := #[] } := Heap.get?_push_of_some _ hS1
    have hp2 : (h'.push { cls := .type "list", data := .seq (acc ++ rows i) }).get? h'.objs.size = some { cls := .type "list", data := .seq (acc ++ rows i) } := Heap.get?_push_size _ rfl
    have pS : S ≠ h'.objs.size := Nat.ne_of_lt (Heap.lt_size hS1)
    have pw : h'.objs.size ∉ wr := fun z => Nat.lt_irrefl _ (hSt _ _ st' _ (Wk.sub _ z))
    show wpAny _ A.in1 (updateSeq S (fun _ => #[Value.ref h'.objs.size]) >>= _) _ _ _
    refine wpAny_bind (wpAny_updateSeq hS2 rfl ?_)
    have hS3 := Heap.get?_update_self (Obj.mapSeq fun _ => #[Value.ref h'.objs.size]) hS2 rfl
    refine wpAny_bind (wpAny_letGo ?_)
    refine wpAny_bind (wpAny_updateSeq hS3 rfl (wpAny_pure ⟨plainId_quiet F.plain_sum_loop _, ?_⟩))
    have keep : ∀ b o, b ≠ S → h'.get? b = some o → (((h'.push { cls := .type "list", data := .seq (acc ++ rows i) }).update S (Obj.mapSeq fun _ => #[Value.ref h'.objs.size])).update S (Obj.mapSeq fun _ => #[Value.ref h'.objs.size])).get? b = some o := fun b o z e =>
      (Heap.get?_update_other _ _ (Ne.symm z)).trans ((Heap.get?_update_other _ _ (Ne.symm z)).trans (Heap.get?_push_of_some _ e))
    refine ih (i + 1) _ h'.objs.size (acc ++ rows i) _ _ (by omega) (by omega) (Wk.frame _ _ _ st' fun b hb o e => keep b o (fun z => nS (z ▸ hb)) e) (Heap.get?_update_self _ hS3 rfl)
      ((Heap.get?_update_other _ _ pS).trans ((Heap.get?_update_other _ _ pS).trans hp2)) (fun j j1 j2 => ?_) (Ne.symm pS) pw hz2 fun h2 tk2 p2 m2 kp2 hp3 z0 z1 => ?_
    · obtain ⟨t1, t2, t3⟩ := hrow j (by omega) j2
      exact ⟨keep _ _ t2 (kp _ _ t3 t1), t2, t3⟩
    · have e : acc ++ catR rows i (k + 1) = acc ++ rows i ++ catR rows (i + 1) k := by
        show acc ++ (rows i ++ catR rows (i + 1) k) = _
        rw [Array.append_assoc]
      refine fin h2 tk2 p2 m2 (fun b o hb bS e => kp2 b o hb bS (keep b o bS (kp b o hb e))) ?_ ?_ ?_
      · rw [e]
        exact hp3
      · exact fun z => absurd z (Nat.succ_ne_zero k)
      · intro _
        by_cases kz : k = 0
        · rw [z0 kz]
          exact Heap.lt_size hS1
        · exact z1 (Nat.pos_of_ne_zero kz)
end
section
variable {prog : Program} {w : World} {A : Around} {E : Value → Shared → Prop} {s : Shared}
theorem args_sum2 (a b : Value) : argsOk "sum" ⟨[a, b], []⟩ := by unfold argsOk; kernel_rfl
theorem call_sumL {l e0 : Addr} {as : List Addr} {rows : Nat → Array Value} {cnt : Nat → Nat} {m0 : Nat} {Q : Value → Shared → Prop} (hh : A.handled = none) (hl : s.heap.IsList l (as.map Value.ref).toArray) (he : IsL s.heap e0 #[] m0)
    (hr : ∀ j a, as[j]? = some a → IsL s.heap a (rows j) (cnt j)) (hz : (catR rows 0 as.length).size ≤ sizeLine)
    (fin : ∀ h' tk p m', (∀ b o, s.heap.get? b = some o → h'.get? b = some o) → IsL h' p (catR rows 0 as.length) m' → (as.length = 0 → p = e0) → (0 < as.length → s.heap.objs.size ≤ p) → Q (.ref p) { s with heap := h', toks := tk }) :
    wpAny (model prog w) A (call (.builtin "sum") [.ref l, .ref e0]) Q E s := by
  have lsz : l < s.heap.objs.size := by
    obtain ⟨_, z, _⟩ := hl
    exact Heap.lt_size z
  refine call_function_tree F.kind_sum F.plain_sum F.entry_sum (args_sum2 _ _) ?_
  unfold Builtin.«sum»
  simp only [List.length_cons, List.length_nil]
  rw [if_neg (by decide)]
  refine wpAny_bind (wpAny_of_eq (show Builtin.Builtins.bindParams "sum" ["start"] 0 { pos := [Value.ref e0] } = pure [some (.ref e0)] from rfl) ?_)
  refine wpAny_bind (wpAny_pyIter_list hl ?_)
  dsimp only
  have te : Shared.TypeIs { s with heap := s.heap.push { cls := .type "list_iterator", data := .fields #[.ref l, .int 0 0] } } (.ref e0) "list" := ⟨_, Heap.get?_push_of_some _ he, rfl⟩
  refine wpAny_bind (wpAny_pure ?_)
  simp only [List.forIn_cons, List.forIn_nil]
  refine wpAny_bind (wpAny_bind (wpAny_bind (wpAny_isInstance (T := "list") (b := false) te F.sub_list_str ?_)))
  simp only [Bool.false_eq_true, if_false]
  refine wpAny_pure (wpAny_bind (wpAny_bind (wpAny_isInstance (T := "list") (b := false) te F.sub_list_bytes ?_)))
  simp only [Bool.false_eq_true, if_false]
  refine wpAny_pure (wpAny_bind (wpAny_bind (wpAny_isInstance (T := "list") (b := false) te F.sub_list_bytearray ?_)))
  simp only [Bool.false_eq_true, if_false]
  refine wpAny_pure (wpAny_pure ?_)
  refine wpAny_bind (wpAny_newObj_type ?_)
  have isz : s.heap.objs.size < (s.heap.push { cls := .type "list_iterator", data := .fields #[.ref l, .int 0 0] }).objs.size := by
    rw [Heap.size_push]
    exact Nat.lt_succ_self _
  have old : ∀ b, b < s.heap.objs.size → b ≠ (s.heap.push { cls := .type "list_iterator", data := .fields #[.ref l, .int 0 0] }).objs.size ∧ b ∉ [s.heap.objs.size] := fun b z => ⟨by omega, fun w => by
    rw [List.mem_singleton.mp w] at z
    exact Nat.lt_irrefl _ z⟩
  have two : ∀ {h : Heap} {b : Addr} {o : Obj}, s.heap.get? b = some o → ((s.heap.push { cls := .type "list_iterator", data := .fields #[.ref l, .int 0 0] }).push { cls := .type "list", data := .seq #[.ref e0] }).get? b = some o := fun {_ _ _} z => Heap.get?_push_of_some _ (Heap.get?_push_of_some _ z)
  refine wpAny_pure ⟨plainId_quiet F.plain_sum_loop _, code_sumL (Walks.list (A := A.in1) hh s.heap.objs.size l (Nat.ne_of_lt lsz) (as.map Value.ref).toArray) (fun i => as.getD i 0) rows cnt (fun i v z => ?_) (s.heap.push { cls := .type "list_iterator", data := .fields #[.ref l, .int 0 0] }).objs.size ?_ (fun i h z b hb => ?_)
    as.length 0 _ e0 #[] m0 0 (by simp) (Nat.zero_le _) ⟨⟨_, Heap.get?_push_of_some _ (Heap.get?_push_size _ rfl), rfl, rfl⟩, (hl.push _).push _⟩ (Heap.get?_push_size _ rfl) (two (h := s.heap) he) (fun j _ j2 => ?_) (old _ (Heap.lt_size he)).1 (old _ (Heap.lt_size he)).2 (by simpa using hz) fun h' tk p m' kp hp z0 z1 => ?_⟩
  · have z2 : (as.map Value.ref)[i]? = some v := by simpa using z
    rw [List.getElem?_map] at z2
    obtain ⟨a, ha, rfl⟩ := Option.map_eq_some_iff.mp z2
    rw [List.getD_eq_getElem?_getD, ha] <;> rfl
  · intro w
    rcases List.mem_cons.mp w with w | w
    · exact absurd w (Nat.ne_of_gt isz)
    · exact Nat.lt_asymm lsz (List.mem_singleton.mp w ▸ isz)
  · obtain ⟨⟨_, g1, _⟩, ⟨_, g2, _⟩⟩ := z
    rcases List.mem_cons.mp hb with w | w
    · rw [w]
      exact Heap.lt_size g1
    · rw [List.mem_singleton.mp w]
      exact Heap.lt_size g2
  · have j3 : j < as.length := by simpa using j2
    have ha : as[j]? = some as[j] := List.getElem?_eq_getElem j3
    have g := hr j _ ha
    have e : as.getD j 0 = as[j] := by rw [List.getD_eq_getElem?_getD, ha] <;> rfl
    show IsL _ (as.getD j 0) (rows j) (cnt j) ∧ as.getD j 0 ≠ _ ∧ as.getD j 0 ∉ _
    rw [e]
    exact ⟨two (h := s.heap) g, old _ (Heap.lt_size g)⟩
  · refine fin h' tk p m' (fun b o z => ?_) ?_ z0 fun z => ?_
    · exact kp b o (old b (Heap.lt_size z)).2 (old b (Heap.lt_size z)).1 (two (h := s.heap) z)
    · simpa using hp
    · exact Nat.le_of_lt (Nat.lt_trans isz (z1 z))
end
/-! ### as a rule -/
theorem catR_list : ∀ (L : List (List Value)) (i : Nat) (rows : Nat → Array Value), (∀ j, j < L.length → rows (i + j) = (L.getD j []).toArray) → catR rows i L.length = L.flatten.toArray
  | [], _, _, _ => rfl
  | r :: L, i, rows, h => by
    have h0 := h 0 (by simp)
    have ih := catR_list L (i + 1) rows fun j hj => by
      have z := h (j + 1) (by simpa using hj)
      rw [show i + 1 + j = i + (j + 1) by omega, z] <;> rfl
    show rows i ++ catR rows (i + 1) L.length = _
    rw [ih, show rows i = r.toArray from h0]
    simp
section
variable {X : Cx}
theorem rows_of {pins : List (Addr × Obj)} {σ : L2.St} {H : Hp} {s : Shared} (I : Inv X pins σ H s) : ∀ {as : List Addr} {xss : List (List V)}, Paired (fun c (xs : List V) => H c = some (.lst xs)) as xss →
    ∃ (L : List (List Value)) (ns : List Nat), L.length = as.length ∧ Vals xss.flatten L.flatten ∧ ∀ (j : Nat) (a : Addr), as[j]? = some a → s.heap.get? a = some { cls := .type "list", data := .seq (L.getD j []).toArray (ns.getD j 0) }
  | _, _, .nil => ⟨[], [], rfl, .nil, fun j a h => by simp at h⟩
  | _, _, .cons r q => by
    obtain ⟨L, ns, h1, h2, h3⟩ := rows_of I q
    obtain ⟨z, its, n, rv, e1, e2⟩ := I.lstM r
    refine ⟨its :: L, n :: ns, by rw [List.length_cons, List.length_cons, h1], ?_, fun j a h => ?_⟩
    · rw [List.flatten_cons, List.flatten_cons]
      exact rv.append h2
    · match j with
      | 0 =>
        rw [← Option.some.inj (show some _ = some a from h)]
        exact e2
      | j + 1 => exact h3 j a (by simpa using h)
def rSumL (K : PySem.W.Frag) : List V → Hp → VK → Prop := fun vs H Q => ∃ (a b : Addr) (as : List Addr) (xss : List (List V)), vs = [.ref a, .ref b] ∧ SqL K H a (as.map V.ref) ∧ H b = some (.lst []) ∧ Paired (fun c (xs : List V) => H c = some (.lst xs)) as xss ∧ xss.flatten.length ≤ sizeLine ∧
  (as = [] → Q (.ref b) H) ∧ ∀ p, as ≠ [] → H p = none → Q (.ref p) (upd H p (.lst xss.flatten))
theorem cr_sumL (hc : X.calm = true) : CallR X (.builtin "sum") (rSumL X.K) := by
  intro pins s σ H vs us Q I r h
  obtain ⟨a, b, as, xss, rfl, hs, hb, hp, hz, q0, q1⟩ := h
  obtain ⟨its, rv, hl, _⟩ := I.list hs
  obtain ⟨u, v, rfl, ru, rv2⟩ := vals2 r
  obtain rfl : u = Value.ref a := ru
  obtain rfl : v = Value.ref b := rv2
  obtain ⟨_, its0, n0, r0, _, e0⟩ := I.lstM hb
  cases r0
  obtain ⟨L, ns, l1, l2, l3⟩ := rows_of I hp
  have ei : its = as.map Value.ref := by
    have : ∀ {as : List Addr} {us : List Value}, Vals (as.map V.ref) us → us = as.map Value.ref := by
      intro as
      induction as with
      | nil => intro us z; cases z; rfl
      | cons c as ih =>
        intro us z
        cases z with
        | cons z1 z2 =>
          rw [List.map_cons, ← ih z2]
          exact congrArg (· :: _) z1
    exact this rv
  have hl2 : s.heap.IsList a (as.map Value.ref).toArray := by rw [← ei]; exact hl.isList
  have ec : catR (fun j => (L.getD j []).toArray) 0 as.length = L.flatten.toArray := by
    rw [← l1]
    exact catR_list L 0 _ fun j _ => by rw [Nat.zero_add]
  have lz : L.flatten.length = xss.flatten.length := l2.length.symm
  refine call_sumL (rows := fun j => (L.getD j []).toArray) (cnt := fun j => ns.getD j 0) (I.ok.hd hc) hl2 e0 l3 (by rw [ec, List.size_toArray, lz]; exact hz) fun h' tk p m' kp hp2 z0 z1 => ?_
  rw [ec] at hp2
  by_cases hn : as = []
  · rw [z0 (by rw [hn] <;> rfl)]
    exact ⟨.ref b, H, I.kept kp, rfl, q0 hn⟩
  · have hpos : 0 < as.length := List.length_pos_iff.mpr hn
    refine ⟨.ref p, upd H p (.lst xss.flatten), I.laid (t' := tk) kp (z1 hpos) ⟨hz, L.flatten, m', l2, hp2⟩, rfl, q1 p hn (I.hok.fresh (z1 hpos))⟩
end
end Un

set_option maxRecDepth 100000
set_option maxHeartbeats 8000000
namespace Un
open PySem PySem.Spec PyProof.Rows L2
/-! ### sorted(xs), xs a list of triples of ints -/
abbrev T3 : Type := Int × Int × Int
def lt3 (p q : T3) : Bool := decide (p.1 < q.1 ∨ (p.1 = q.1 ∧ (p.2.1 < q.2.1 ∨ (p.2.1 = q.2.1 ∧ p.2.2 < q.2.2))))
theorem lt3_iff {p q : T3} : lt3 p q = true ↔ p.1 < q.1 ∨ (p.1 = q.1 ∧ (p.2.1 < q.2.1 ∨ (p.2.1 = q.2.1 ∧ p.2.2 < q.2.2))) := decide_eq_true_iff
theorem lt3_no {p q : T3} : lt3 p q = false ↔ ¬ (p.1 < q.1 ∨ (p.1 = q.1 ∧ (p.2.1 < q.2.1 ∨ (p.2.1 = q.2.1 ∧ p.2.2 < q.2.2)))) := decide_eq_false_iff_not
theorem swo3 {α : Type} (k : α → T3) : SrtO.Swo fun v u => lt3 (k v) (k u) := by
  refine ⟨fun x y h => ?_, fun x y z h1 h2 => ?_⟩
  · have a := lt3_iff.mp h
    exact lt3_no.mpr (by omega)
  · have a := lt3_no.mp h1
    have b := lt3_no.mp h2
    exact lt3_no.mpr (by omega)
def Is3 (h : Heap) (v : Value) (p : T3) : Prop := ∃ a o t u q n, v = .ref a ∧ h.get? a = some o ∧ o.cls = .type "tuple" ∧ o.data = .seq #[.int p.1 t, .int p.2.1 u, .int p.2.2 q] n
theorem Is3.keeps {h h' : Heap} {v : Value} {p : T3} (x : Is3 h v p) (k : ∀ b o, h.get? b = some o → o.cls = .type "tuple" → h'.get? b = some o) : Is3 h' v p := by
  obtain ⟨a, o, t, u, q, n, e, ho, hc, hd⟩ := x
  exact ⟨a, o, t, u, q, n, e, k _ _ ho hc, hc, hd⟩
section
variable {prog : Program} {w : World} {A : Around} {E : Value → Shared → Prop} {s : Shared}
theorem cmp3 {vs : List Value} {k : Value → T3} (hp : ∀ v ∈ vs, Is3 s.heap v (k v)) : SrtO.Cmp prog w A s (tuples' true) (fun p => p.1 ∈ vs) (SrtO.lt2 fun v u => lt3 (k v) (k u)) := by
  intro p q hm hm'
  have h1 := hp _ hm
  have h2 := hp _ hm'
  show wpAny (model prog w) A (keyLt' (tuples' true) p.1 q.1) (fun r s' => s' = s ∧ r = lt3 (k p.1) (k q.1)) (fun _ _ => False) s
  generalize k p.1 = f at h1 ⊢
  generalize k q.1 = g at h2 ⊢
  obtain ⟨x, y, z⟩ := f
  obtain ⟨x', y', z'⟩ := g
  obtain ⟨a, o, t, u, c, n, e, ho, hc, hd⟩ := h1
  obtain ⟨a', o', t', u', c', n', e', ho', hc', hd'⟩ := h2
  rw [e, e']
  have key : ∀ r : Bool, (r = true ↔ (x < x' ∨ (x = x' ∧ (y < y' ∨ (y = y' ∧ z < z'))))) → s = s ∧ r = lt3 (x, y, z) (x', y', z') := fun r h => ⟨rfl, by
    rw [Bool.eq_iff_iff, h, lt3_iff]⟩
  refine PySem.W.kat_lt ho hd ho' hd' ?_
  show PySem.W.KatLex prog w A true (decide (3 < 3)) _ [(.int x t, .int x' t'), (.int y u, .int y' u'), (.int z c, .int z' c')] 0 s
  refine PySem.W.kat_cons (SeqAt.EqAt.int_int x t x' t' prog w _ _ ?_)
  refine PySem.W.kat_go (fun q1 => ?_) fun q1 => ?_
  · have ex : x = x' := by simpa using q1
    refine PySem.W.kat_yes (PySem.W.kat_cons (SeqAt.EqAt.int_int y u y' u' prog w _ _ ?_))
    refine PySem.W.kat_go (fun q2 => ?_) fun q2 => ?_
    · have ey : y = y' := by simpa using q2
      refine PySem.W.kat_yes (PySem.W.kat_cons (SeqAt.EqAt.int_int z c z' c' prog w _ _ ?_))
      refine PySem.W.kat_go (fun q3 => ?_) fun q3 => ?_
      · have ez : z = z' := by simpa using q3
        exact PySem.W.kat_yes (PySem.W.kat_nil (key _ (by simp; omega)))
      · exact PySem.W.kat_no (PySem.W.kat_one _ _ (PyProof.Rows.lt_int (key _ (by rw [decide_eq_true_iff]; omega))))
    · have ey : ¬ y = y' := by simpa using q2
      exact PySem.W.kat_no (PySem.W.kat_one _ _ (PyProof.Rows.lt_int (key _ (by rw [decide_eq_true_iff]; omega))))
  · have ex : ¬ x = x' := by simpa using q1
    exact PySem.W.kat_no (oneLt_int (key _ (by rw [decide_eq_true_iff]; omega)))
theorem heads3 {h : Heap} {k : Value → T3} : ∀ {vs : List Value}, (∀ v ∈ vs, Is3 h v (k v)) → ∃ fs : List Value, PySem.W.KatTups h vs fs ∧ fs.length = vs.length ∧ ∀ f ∈ fs, ∃ x t, f = Value.int x t
  | [], _ => ⟨[], PySem.W.KatTups.nil, rfl, fun f hf => (List.not_mem_nil hf).elim⟩
  | v :: vs, hp => by
    obtain ⟨fs, g1, g2, g3⟩ := heads3 (vs := vs) fun v' hm => hp v' (List.mem_cons_of_mem _ hm)
    obtain ⟨a, o, t, u, q, n, e, ho, hc, hd⟩ := hp v List.mem_cons_self
    subst e
    refine ⟨.int (k (.ref a)).1 t :: fs, PySem.W.KatTups.cons ho hc hd rfl g1, by rw [List.length_cons, List.length_cons, g2], fun f hf => ?_⟩
    rcases List.mem_cons.mp hf with rfl | hf
    · exact ⟨_, t, rfl⟩
    · exact g3 f hf
theorem able3 {a : Addr} {vs : List Value} {k : Value → T3} (h0 : 0 < vs.length) (hp : ∀ v ∈ vs, Is3 s.heap v (k v)) (ha : ∀ o, s.heap.get? a = some o → o.cls ≠ .type "tuple") : SrtO.SortableO prog w A s a vs fun v u => lt3 (k v) (k u) := by
  intro h' keep
  have hp' : ∀ v ∈ vs, Is3 h' v (k v) := fun v hm => (hp v hm).keeps fun b o e c => keep b o (fun z => ha o (z ▸ e) c) e
  obtain ⟨fs, g1, g2, g3⟩ := heads3 hp'
  refine ⟨tuples' true, fun Q E hq => ?_, cmp3 hp'⟩
  refine PySem.W.kat_kind (T := .type "int") g1 (by omega) (fun f hm => ?_) (by rfl) ?_
  · obtain ⟨x, t, rfl⟩ := g3 f hm
    exact PySem.W.Looks.now
  · rw [show (Value.type "int" != Value.type "tuple") = true by decide +kernel]
    exact hq
theorem sorted3 {l : Addr} {vs : List Value} {k : Value → T3} {Q : Value → Shared → Prop} (hl : s.heap.IsList l vs.toArray) (hz : vs.length ≤ sizeLine) (hp : ∀ v ∈ vs, Is3 s.heap v (k v))
    (h : ∀ (h' : Heap) (d : Addr) (out : List Value), SrtO.Srtd (fun v u => lt3 (k v) (k u)) out → SrtO.Stb (fun v u => lt3 (k v) (k u)) out vs → (∀ b o, s.heap.get? b = some o → h'.get? b = some o) → s.heap.objs.size ≤ d → (∃ n, h'.get? d = some (seqObj "list" out.toArray n)) → Q (.ref d) { s with heap := h' }) :
    wpAny (model prog w) A (call (.builtin "sorted") [.ref l]) Q E s := by
  refine SrtO.sorted_ord (swo3 k) hl hz (fun h2 g a ha kk => ?_) fun out hs hb => ?_
  · refine able3 (s := { s with heap := g }) (by omega) (fun v hm => (hp v hm).keeps fun b o e _ => (kk b o e).2) fun o e => ?_
    have e' : some o = some (seqObj "list" vs.toArray 0) := e.symm.trans ha
    cases e'
    exact fun c => absurd (Value.type.inj c) (by decide)
  · exact h _ _ out hs hb (fun b o e => sortedAll_old e) (Nat.le_succ _) (sortedAll_at s.heap vs out.toArray)
end
section
variable {X : Cx}
abbrev ltV3 (k : V → T3) (x y : V) : Bool := lt3 (k x) (k y)
def rSorted3 (K : PySem.W.Frag) : List V → Hp → VK → Prop := fun vs H Q => ∃ (a : Addr) (xs : List V) (k : V → T3), vs = [V.ref a] ∧ SqL K H a xs ∧ (∀ x ∈ xs, ∃ t, x = V.ref t ∧ H t = some (.tup [.int (k x).1, .int (k x).2.1, .int (k x).2.2])) ∧
  ∀ ys p, ys.Perm xs → SrtO.Srtd (ltV3 k) ys → H p = none → Q (.ref p) (upd H p (.lst ys))
theorem vals3 {x y z : V} {us : List Value} (r : Vals [x, y, z] us) : ∃ u v w, us = [u, v, w] ∧ RelV x u ∧ RelV y v ∧ RelV z w := by
  cases r with
  | cons r1 r =>
    obtain ⟨v, w, rfl, r2, r3⟩ := vals2 r
    exact ⟨_, v, w, rfl, r1, r2, r3⟩
theorem cr_sorted3 : CallR X (.builtin "sorted") (rSorted3 X.K) := by
  intro pins s σ H vs us Q I r h
  obtain ⟨a, xs, k, rfl, hs, hx, q⟩ := h
  obtain ⟨its, rv, hl, hz⟩ := I.list hs
  obtain ⟨u, rfl, ru⟩ := vals1 r
  obtain rfl : u = Value.ref a := ru
  obtain ⟨e1, e2⟩ := refs_back rv fun x m => by
    obtain ⟨t, e, _⟩ := hx x m
    exact ⟨t, e⟩
  refine sorted3 (k := fun u => k (backV u)) hl.isList (by rw [← rv.length]; exact hz) (fun v hv => ?_) fun h' d out h1 h2 kp hd hn => ?_
  · obtain ⟨t, rfl⟩ := e2 v hv
    have hm : V.ref t ∈ xs := by rw [e1]; exact List.mem_map.mpr ⟨_, hv, rfl⟩
    obtain ⟨t', e, ht⟩ := hx _ hm
    cases e
    obtain ⟨_, its2, r2, o, ho, hc, n, hd⟩ := I.hok _ _ ht
    obtain ⟨u1, u2, u3, rfl, ri, rj, rk⟩ := vals3 r2
    obtain ⟨t1, rfl⟩ := ri
    obtain ⟨t2, rfl⟩ := rj
    obtain ⟨t3, rfl⟩ := rk
    exact ⟨t, o, t1, t2, t3, n, rfl, ho, hc, hd⟩
  · have h3 : ∀ u ∈ out, ∃ a, u = Value.ref a := fun u hu => e2 u (h2.perm.mem_iff.mp hu)
    obtain ⟨n, hn⟩ := hn
    have pm : (out.map backV).Perm xs := by
      rw [e1]
      exact h2.perm.map backV
    refine ⟨.ref d, upd H d (.lst (out.map backV)), I.laid (t' := s.toks) kp hd ⟨?_, out, n, vals_back h3, hn⟩, rfl, q _ d pm (SrtO.srtd_map h1) (I.hok.fresh hd)⟩
    rw [pm.length_eq]
    exact hz
end
end Un

set_option maxRecDepth 100000
set_option maxHeartbeats 8000000
namespace Un
open PySem PySem.Spec PyProof.Rows L2
/-! ### set(xs) of different ints, and its length -/
def CntS (a : Addr) (n : Nat) : HO := .ext fun h => ∃ o es ep t, h.get? a = some o ∧ o.ExactSet ∧ o.data = .set es ep t ∧ t.fits es.size = true ∧ es.size = n ∧ n < scanBound
theorem dedup_nodup : ∀ (ns acc : List Int), (acc ++ ns).Nodup → ns.foldl step_dedup acc = acc ++ ns
  | [], acc, _ => by
    rw [List.append_nil]
    rfl
  | x :: ns, acc, h => by
    have hx : x ∉ acc := fun m => (List.nodup_append.mp h).2.2 x m x List.mem_cons_self rfl
    have e : step_dedup acc x = acc ++ [x] := by
      unfold step_dedup
      simp [hx]
    rw [List.foldl_cons, e, dedup_nodup ns (acc ++ [x]) (by rw [List.append_assoc]; exact h), List.append_assoc] <;> rfl
theorem met_len {ns : List Int} (h : ns.Nodup) : (firstMet (fun i => ns.getD i 0) ns.length).length = ns.length := by
  have e : (List.range ns.length).map (fun i => ns.getD i 0) = ns := by
    refine List.ext_getElem (by simp) fun i h1 h2 => ?_
    rw [List.getElem_map, List.getElem_range, List.getD_eq_getElem?_getD, List.getElem?_eq_getElem h2] <;> rfl
  unfold firstMet
  rw [e, dedup_nodup ns [] (by simpa using h)] <;> rfl
section
variable {X : Cx}
def rSetI (K : PySem.W.Frag) : List V → Hp → VK → Prop := fun vs H Q => ∃ (l : Addr) (ns : List Int), vs = [.ref l] ∧ SqL K H l (ns.map V.int) ∧ ns.Nodup ∧ ns.length < 1000 ∧ ∀ p, H p = none → Q (.ref p) (upd H p (CntS p ns.length))
theorem cr_setI (hc : X.calm = true) : CallR X (.type "set") (rSetI X.K) := by
  intro pins s σ H vs us Q I r h
  obtain ⟨l, ns, rfl, hs, hn, hz, q⟩ := h
  obtain ⟨its, rv, hl, _⟩ := I.list hs
  obtain ⟨u, rfl, ru⟩ := vals1 r
  obtain rfl : u = Value.ref l := ru
  have hi := rv.ints
  have e1 : its.toArray.size = ns.length := by
    rw [List.size_toArray]
    exact hi.length
  have hsb : ns.length + 1 < scanBound := Nat.lt_of_lt_of_le (Nat.succ_lt_succ hz) (by decide)
  refine PySem.call_set_list (ns := ns) (I.ok.hd hc) hl.isList (by simpa using hi) (by rw [e1]; exact hsb) fun h' tk R kp => ?_
  rw [e1, met_len hn] at R
  obtain ⟨o, es, ep, t, ho, hex, hd, _, _, g1, g2, g3⟩ := R
  have kp' : ∀ b u, s.heap.get? b = some u → h'.get? b = some u := fun b u e => kp b u (Heap.lt_size e) e
  refine ⟨.ref _, upd H s.heap.objs.size (CntS s.heap.objs.size ns.length), I.laid (t' := tk) kp' (Nat.le_refl _) ⟨⟨o, es, ep, t, ho, hex, hd, g2, g3, g3 ▸ g1⟩, ⟨o, ho⟩, fun h1 h2 y k => ?_⟩, rfl, q _ (I.hok.fresh (Nat.le_refl _))⟩
  obtain ⟨o', es', ep', t', y1, y2⟩ := y
  exact ⟨o', es', ep', t', k _ y1, y2⟩
def rLenI : List V → Hp → VK → Prop := fun vs H Q => ∃ (p : Addr) (n : Nat), vs = [.ref p] ∧ H p = some (CntS p n) ∧ Q (.int (n : Nat)) H
theorem cr_lenI : CallR X (.builtin "len") rLenI := by
  intro pins s σ H vs us Q I r h
  obtain ⟨p, n, rfl, hp, q⟩ := h
  obtain ⟨u, rfl, ru⟩ := vals1 r
  obtain rfl : u = Value.ref p := ru
  obtain ⟨o, es, ep, t, ho, hex, hd, g2, g3, g4⟩ := (I.hok p _ hp).1
  refine PySem.call_len_set ho hex hd g2 ?_ ?_
  · have : (scanBound : Int) < 2 ^ 63 := by decide
    omega
  · rw [g3]
    exact ⟨.int (n : Nat), H, I.tok _, ⟨_, rfl⟩, q⟩
end
end Un

set_option maxRecDepth 100000
set_option maxHeartbeats 4000000
namespace Un
open PySem PySem.Spec PyProof.Rows L2
/-! ### data as it lies on the heap; Z: where lists may lie -/
def keyD : Key → PyData
  | .inl i => .int i
  | .inr x => .str x
abbrev PB := PyData × Bool
def zz (Z : Addr → Prop) (n : Bool) : Addr → Prop := fun a => n = true → Z a
mutual
inductive Rp (Z : Addr → Prop) (G : Hp) : V → PyData → Prop
  | non : Rp Z G .non .none
  | bl (b : Bool) : Rp Z G (.bl b) (.bool b)
  | int (i : Int) : Rp Z G (.int i) (.int i)
  | str (x : PySem.Str) : Rp Z G (.str x) (.str x)
  | lst {a : Addr} {xs : List V} {ds : List PyData} : G a = some (.lst xs) → Z a → RpA Z G xs ds → Rp Z G (.ref a) (.list ds)
  | tup {a : Addr} {xs : List V} {ds : List PyData} : G a = some (.tup xs) → RpA Z G xs ds → Rp Z G (.ref a) (.tuple ds)
  | dic {a : Addr} {kvs : List (Key × V)} {ds : List PyData} : G a = some (.dK kvs) → Z a → RpA Z G (kvs.map fun z => z.2) ds → Rp Z G (.ref a) (.dict ((kvs.map fun z => keyD z.1).zip ds))
inductive RpA (Z : Addr → Prop) (G : Hp) : List V → List PyData → Prop
  | nil : RpA Z G [] []
  | cons {v : V} {vs : List V} {d : PyData} {ds : List PyData} : Rp Z G v d → RpA Z G vs ds → RpA Z G (v :: vs) (d :: ds)
end
section
variable {Z Z' : Addr → Prop} {G G' H H' : Hp} {K : PySem.W.Frag}
mutual
theorem Rp.mono (k : ∀ a, Z a → Z' a) (s : Same G G') : ∀ {v : V} {d : PyData}, Rp Z G v d → Rp Z' G' v d
  | _, _, .non => .non
  | _, _, .bl b => .bl b
  | _, _, .int i => .int i
  | _, _, .str x => .str x
  | _, _, .lst h z r => .lst (s _ _ h) (k _ z) (RpA.mono k s r)
  | _, _, .tup h r => .tup (s _ _ h) (RpA.mono k s r)
  | _, _, .dic h z r => .dic (s _ _ h) (k _ z) (RpA.mono k s r)
theorem RpA.mono (k : ∀ a, Z a → Z' a) (s : Same G G') : ∀ {vs : List V} {ds : List PyData}, RpA Z G vs ds → RpA Z' G' vs ds
  | _, _, .nil => .nil
  | _, _, .cons r t => .cons (Rp.mono k s r) (RpA.mono k s t)
end
theorem Rp.same (s : Same G G') {v : V} {d : PyData} (h : Rp Z G v d) : Rp Z G' v d := h.mono (fun _ z => z) s
theorem RpA.same (s : Same G G') {v : List V} {d : List PyData} (h : RpA Z G v d) : RpA Z G' v d := h.mono (fun _ z => z) s
mutual
theorem Rp.dp : ∀ {v : V} {d : PyData}, Rp Z G v d → d.hasDict = false → Dp K G v d
  | _, _, .non, _ => .non
  | _, _, .bl b, _ => .bl b
  | _, _, .int i, _ => .int i
  | _, _, .str x, _ => .str x
  | _, _, .lst h _ r, e => .lst (sqL_of h) (RpA.dp r (by simpa only [PyData.hasDict] using e))
  | _, _, .tup h r, e => .tup (sqT_of h) (RpA.dp r (by simpa only [PyData.hasDict] using e))
  | _, _, .dic _ _ _, e => by simp [PyData.hasDict] at e
theorem RpA.dp : ∀ {vs : List V} {ds : List PyData}, RpA Z G vs ds → PyData.hasDictAll ds = false → DpAll K G vs ds
  | _, _, .nil, _ => .nil
  | _, _, .cons r t, e => by
    simp only [PyData.hasDictAll, Bool.or_eq_false_iff] at e
    exact .cons (Rp.dp r e.1) (RpA.dp t e.2)
end
theorem RpA.length : ∀ {vs : List V} {ds : List PyData}, RpA Z G vs ds → vs.length = ds.length
  | _, _, .nil => rfl
  | _, _, .cons _ t => by rw [List.length_cons, List.length_cons, RpA.length t]
theorem RpA.append : ∀ {vs us : List V} {ds es : List PyData}, RpA Z G vs ds → RpA Z G us es → RpA Z G (vs ++ us) (ds ++ es)
  | _, _, _, _, .nil, q => q
  | _, _, _, _, .cons r p, q => .cons r (RpA.append p q)
theorem RpA.get : ∀ {vs : List V} {ds : List PyData} {i : Nat} {d : PyData}, RpA Z G vs ds → ds[i]? = some d → ∃ v, vs[i]? = some v ∧ Rp Z G v d
  | _, _, _, _, .nil, h => by simp at h
  | _, _, 0, _, .cons r _, h => by
    simp at h
    subst h
    exact ⟨_, rfl, r⟩
  | _, _, i + 1, _, .cons _ q, h => by
    obtain ⟨v, h1, h2⟩ := RpA.get (i := i) q (by simpa using h)
    exact ⟨v, by simpa using h1, h2⟩
theorem RpA.getV : ∀ {vs : List V} {ds : List PyData} {i : Nat} {v : V}, RpA Z G vs ds → vs[i]? = some v → ∃ d, ds[i]? = some d ∧ Rp Z G v d
  | _, _, _, _, .nil, h => by simp at h
  | _, _, 0, _, .cons r _, h => by
    simp at h
    subst h
    exact ⟨_, rfl, r⟩
  | _, _, i + 1, _, .cons _ q, h => by
    obtain ⟨v, h1, h2⟩ := RpA.getV (i := i) q (by simpa using h)
    exact ⟨v, by simpa using h1, h2⟩
theorem RpA.take : ∀ (k : Nat) {vs : List V} {ds : List PyData}, RpA Z G vs ds → RpA Z G (vs.take k) (ds.take k)
  | 0, _, _, _ => .nil
  | _ + 1, _, _, .nil => .nil
  | k + 1, _, _, .cons r q => .cons r (RpA.take k q)
theorem RpA.drop : ∀ (k : Nat) {vs : List V} {ds : List PyData}, RpA Z G vs ds → RpA Z G (vs.drop k) (ds.drop k)
  | 0, _, _, h => h
  | k + 1, _, _, .nil => (show RpA Z G [] [] from .nil)
  | k + 1, _, _, .cons _ q => RpA.drop k q
theorem RpA.set : ∀ (k : Nat) {vs : List V} {ds : List PyData} {v : V} {d : PyData}, RpA Z G vs ds → Rp Z G v d → RpA Z G (vs.set k v) (ds.set k d)
  | _, _, _, _, _, .nil, _ => (show RpA Z G [] [] from .nil)
  | 0, _, _, _, _, .cons _ q, r => .cons r q
  | k + 1, _, _, _, _, .cons r' q, r => .cons r' (RpA.set k q r)
theorem RpA.erase : ∀ (k : Nat) {vs : List V} {ds : List PyData}, RpA Z G vs ds → RpA Z G (vs.eraseIdx k) (ds.eraseIdx k)
  | _, _, _, .nil => (show RpA Z G [] [] from .nil)
  | 0, _, _, .cons _ q => q
  | k + 1, _, _, .cons r q => .cons r (RpA.erase k q)
theorem RpA.reverse : ∀ {vs : List V} {ds : List PyData}, RpA Z G vs ds → RpA Z G vs.reverse ds.reverse
  | _, _, .nil => .nil
  | _, _, .cons r q => by
    rw [List.reverse_cons, List.reverse_cons]
    exact (RpA.reverse q).append (.cons r .nil)
theorem RpA.flat : ∀ (k : Nat) {vs : List V} {ds : List PyData}, RpA Z G vs ds → RpA Z G (List.replicate k vs).flatten (List.replicate k ds).flatten
  | 0, _, _, _ => .nil
  | k + 1, _, _, h => by
    rw [List.replicate_succ, List.replicate_succ, List.flatten_cons, List.flatten_cons]
    exact h.append (RpA.flat k h)
theorem noD {d : PyData} (h : SeqAt.shaped d = true) : d.hasDict = false := PyData.hasDict_of_canLay _ (SeqAt.canLay_of_shaped h)
/-! no list in it -/
mutual
def nol : PyData → Bool
  | .none => true
  | .bool _ => true
  | .int _ => true
  | .str _ => true
  | .list _ => false
  | .dict _ => false
  | .tuple ds => nolA ds
def nolA : List PyData → Bool
  | [] => true
  | d :: ds => nol d && nolA ds
end
mutual
theorem Rp.nol : ∀ {v : V} {d : PyData}, Rp Z G v d → nol d = true → Rp Z' G v d
  | _, _, .non, _ => .non
  | _, _, .bl b, _ => .bl b
  | _, _, .int i, _ => .int i
  | _, _, .str x, _ => .str x
  | _, _, .lst h _ r, e => by simp [Un.nol] at e
  | _, _, .dic h _ r, e => by simp [Un.nol] at e
  | _, _, .tup h r, e => .tup h (RpA.nol r (by simpa [Un.nol] using e))
theorem RpA.nol : ∀ {vs : List V} {ds : List PyData}, RpA Z G vs ds → nolA ds = true → RpA Z' G vs ds
  | _, _, .nil, _ => .nil
  | _, _, .cons r t, e => by
    simp [Un.nolA] at e
    exact .cons (Rp.nol r e.1) (RpA.nol t e.2)
end
def fl (n : Bool) (d : PyData) : Bool := n || nol d
theorem Rp.fl {v : V} {d : PyData} {n : Bool} (h : Rp (zz Z n) G v d) : Rp (zz Z (fl n d)) G v d := by
  cases n with
  | true => exact h
  | false =>
    cases e : Un.nol d with
    | true => exact h.nol e
    | false =>
      unfold Un.fl
      rw [e]
      exact h
theorem zz_weak {n : Bool} (h : n = false) : ∀ a, zz Z n a := fun a e => by
  rw [h] at e
  cases e
theorem zz_all {n m : Bool} : ∀ a, zz Z n a → zz Z (n && m) a := fun a h e => h (by cases n; cases e; rfl)
theorem zz_all2 {n m : Bool} : ∀ a, zz Z m a → zz Z (n && m) a := fun a h e => h (by cases n; cases e; exact e)
/-! ### what grows -/
/-- G: what is frozen of H -/
structure Grow (G H G' H' : Hp) : Prop where
  sH : Same H H'
  sG : Same G G'
  gh : Same G' H'
  nw : ∀ b, H b ≠ none → G b = none → G' b = none
theorem Grow.refl (h : Same G H) : Grow G H G H := ⟨Same.refl H, Same.refl G, h, fun _ _ e => e⟩
theorem Grow.trans {G'' H'' : Hp} (a : Grow G H G' H') (b : Grow G' H' G'' H'') : Grow G H G'' H'' :=
  ⟨a.sH.trans b.sH, a.sG.trans b.sG, b.gh, fun c h e => b.nw c (fun z => by
    cases q : H c with
    | none => exact h q
    | some o =>
      rw [a.sH c o q] at z
      cases z) (a.nw c h e)⟩
theorem Grow.new {p : Addr} {o : HO} (g : Grow G H G' H') (np : H' p = none) : Grow G H (upd G' p o) (upd H' p o) := by
  refine ⟨g.sH.trans (same_upd np), g.sG.trans (same_upd (g.gh.free np)), fun b u e => ?_, fun b h e => ?_⟩
  · by_cases eb : b = p
    · subst eb
      rw [upd_same] at e ⊢
      exact e
    · rw [upd_ne eb] at e ⊢
      exact g.gh b u e
  · have eb : b ≠ p := fun z => h (by rw [z]; exact g.sH.free np)
    rw [upd_ne eb]
    exact g.nw b h e
theorem Grow.newH {p : Addr} {o : HO} (g : Grow G H G' H') (np : H' p = none) : Grow G H G' (upd H' p o) :=
  ⟨g.sH.trans (same_upd np), g.sG, g.gh.trans (same_upd np), g.nw⟩
theorem Grow.froze {p : Addr} {o : HO} (g : Grow G H G' H') (np : H p = none) (hp : H' p = some o) (gp : G' p = none) : Grow G H (upd G' p o) H' := by
  refine ⟨g.sH, g.sG.trans (same_upd gp), fun b u e => ?_, fun b h e => ?_⟩
  · by_cases eb : b = p
    · subst eb
      rw [upd_same] at e
      rw [hp]
      exact e
    · rw [upd_ne eb] at e
      exact g.gh b u e
  · have eb : b ≠ p := fun z => h (by rw [z]; exact np)
    rw [upd_ne eb]
    exact g.nw b h e
/-! ### what an expression gives -/
structure Rs where
  d : PyData
  n : Bool
  t : Bool
abbrev Rs.pb (r : Rs) : PB := (r.d, fl r.n r.d)
def sc (d : PyData) : Rs := ⟨d, true, false⟩
def ER (Z : Addr → Prop) (H : Hp) (v : V) (H' G' : Hp) (r : Rs) : Prop :=
  match r.t with
  | false => Rp (zz Z r.n) G' v r.d
  | true => ∃ p xs ds, v = .ref p ∧ r.d = .list ds ∧ H p = none ∧ H' p = some (.lst xs) ∧ G' p = none ∧ RpA (zz Z r.n) G' xs ds
def KK (Z : Addr → Prop) (G H : Hp) (r : Rs) (Q : VK) : Prop := ∀ v H' G', Grow G H G' H' → ER Z H v H' G' r → Q v H'
theorem ER.settle {v : V} {r : Rs} (hZ : ∀ a, H a = none → Z a) (g : Grow G H G' H') (h : ER Z H v H' G' r) : ∃ G2, Grow G H G2 H' ∧ Same G' G2 ∧ Rp (zz Z r.pb.2) G2 v r.pb.1 := by
  unfold ER at h
  obtain ⟨d, n, t⟩ := r
  cases t with
  | false => exact ⟨G', g, Same.refl _, h.fl⟩
  | true =>
    obtain ⟨p, xs, ds, e1, e2, e3, e4, e5, e6⟩ := h
    dsimp only at e1 e2 e6 ⊢
    subst e1 e2
    exact ⟨_, g.froze e3 e4 e5, same_upd e5, Rp.fl (.lst upd_same (fun _ => hZ p e3) (e6.same (same_upd e5)))⟩
theorem ER.back {v : V} {r : Rs} {H0 : Hp} (s : Same H0 H) (h : ER Z H v H' G' r) : ER Z H0 v H' G' r := by
  unfold ER at h ⊢
  obtain ⟨d, n, t⟩ := r
  cases t with
  | false => exact h
  | true =>
    obtain ⟨p, xs, ds, e1, e2, e3, e4, e5, e6⟩ := h
    exact ⟨p, xs, ds, e1, e2, s.free e3, e4, e5, e6⟩
/-- from a value's reading at the end of the grown heaps -/
theorem KK.go {r : Rs} {Q : VK} (k : KK Z G H r Q) (g : Grow G H G' H') : KK Z G' H' r Q := fun v H2 G2 g2 e => k v H2 G2 (g.trans g2) (e.back g.sH)
theorem KK.val {r : Rs} {Q : VK} (k : KK Z G H r Q) (gh : Same G H) {v : V} (ht : r.t = false) (h : Rp (zz Z r.n) G v r.d) : Q v H := k v H G (Grow.refl gh) (by unfold ER; rw [ht]; exact h)
theorem KK.lst {r : Rs} {Q : VK} {ds : List PyData} {xs : List V} {p : Addr} (k : KK Z G H r Q) (gh : Same G H) (ht : r.t = true) (hd : r.d = .list ds) (np : H p = none) (h : RpA (zz Z r.n) G xs ds) : Q (.ref p) (upd H p (.lst xs)) :=
  k (.ref p) (upd H p (.lst xs)) G ((Grow.refl gh).newH np) (by unfold ER; rw [ht]; exact ⟨p, xs, ds, rfl, hd, np, upd_same, gh.free np, h⟩)
theorem KK.tup {r : Rs} {Q : VK} {ds : List PyData} {xs : List V} {p : Addr} (k : KK Z G H r Q) (gh : Same G H) (ht : r.t = false) (hd : r.d = .tuple ds) (np : H p = none) (h : RpA (zz Z r.n) G xs ds) : Q (.ref p) (upd H p (.tup xs)) :=
  k (.ref p) (upd H p (.tup xs)) (upd G p (.tup xs)) ((Grow.refl gh).new np) (by unfold ER; rw [ht, hd]; exact .tup upd_same (h.same (same_upd (gh.free np))))
end
theorem KK.dic0 {Z : Addr → Prop} {G H : Hp} {Q : VK} {p : Addr} (hZ : ∀ a, H a = none → Z a) (k : KK Z G H ⟨.dict [], true, false⟩ Q) (gh : Same G H) (np : H p = none) : Q (.ref p) (upd H p (.dK [])) :=
  k (.ref p) (upd H p (.dK [])) (upd G p (.dK [])) ((Grow.refl gh).new np) (show Rp (zz Z true) (upd G p (.dK [])) (.ref p) (.dict []) from .dic (kvs := []) (ds := []) upd_same (fun _ => hZ p np) .nil)
/-! ### operations on values -/
def Ok2 (r : R2) (f : PB → PB → Option Rs) : Prop := ∀ (Z : Addr → Prop) (G H : Hp) (x y : V) (p q : PB) (res : Rs), f p q = some res → (∀ a, H a = none → Z a) → Same G H → Rp (zz Z p.2) G x p.1 → Rp (zz Z q.2) G y q.1 → ∀ Q : VK, KK Z G H res Q → r x y H Q
def Ok1 (r : V → Hp → VK → Prop) (f : PB → Option Rs) : Prop := ∀ (Z : Addr → Prop) (G H : Hp) (x : V) (p : PB) (res : Rs), f p = some res → (∀ a, H a = none → Z a) → Same G H → Rp (zz Z p.2) G x p.1 → ∀ Q : VK, KK Z G H res Q → r x H Q
def OkN (r : List V → Hp → VK → Prop) (f : List PB → Option Rs) : Prop := ∀ (Z : Addr → Prop) (G H : Hp) (xs : List V) (ps : List PB) (res : Rs), f ps = some res → (∀ a, H a = none → Z a) → Same G H → Paired (fun v (p : PB) => Rp (zz Z p.2) G v p.1) xs ps → ∀ Q : VK, KK Z G H res Q → r xs H Q
def addF : PB → PB → Option Rs
  | (.int i, _), (.int j, _) => some (sc (.int (i + j)))
  | (.list ds, n), (.list es, m) => if ds.length + es.length ≤ 100000 then some ⟨.list (ds ++ es), n && m, true⟩ else none
  | (.tuple ds, n), (.tuple es, m) => if ds.length + es.length ≤ 100000 ∧ ds.length ≠ 0 ∧ es.length ≠ 0 then some ⟨.tuple (ds ++ es), n && m, false⟩ else none
  | _, _ => none
def rAddZ (K : PySem.W.Frag) : R2 := fun x y H Q => rI0 (fun i j => .int (i + j)) x y H Q ∨ rCat x y H Q ∨ rCatT K x y H Q
theorem op_addZ {X : Cx} : OpR X (binaryOp .Add) (rAddZ X.K) := by
  intro pins s σ H x y v u Q I rx ry h
  rcases h with h | h | h
  · exact op_add pins s σ H x y v u Q I rx ry h
  · exact op_cat pins s σ H x y v u Q I rx ry h
  · exact op_catT pins s σ H x y v u Q I rx ry h
theorem sz_le {n : Nat} (h : n ≤ 100000) : n ≤ sizeLine := Nat.le_trans h (by decide)
theorem ok_add {K : PySem.W.Frag} : Ok2 (rAddZ K) addF := by
  intro Z G H x y p q res e hZ gh hx hy Q k
  obtain ⟨d, n⟩ := p
  obtain ⟨d', m⟩ := q
  dsimp only at hx hy
  unfold addF at e
  split at e
  · rename_i e1 e2
    cases e1
    cases e2
    cases hx
    cases hy
    cases e
    exact .inl ⟨_, _, rfl, rfl, k.val gh rfl (.int _)⟩
  · rename_i e1 e2
    cases e1
    cases e2
    cases hx with
    | lst hx _ rx =>
    cases hy with
    | lst hy _ ry =>
    split at e
    · rename_i hz
      cases e
      refine .inr (.inl ⟨_, _, _, _, rfl, rfl, gh _ _ hx, gh _ _ hy, by rw [rx.length, ry.length]; exact sz_le hz, fun p np => ?_⟩)
      exact k.lst gh rfl rfl np ((rx.mono zz_all (Same.refl _)).append (ry.mono zz_all2 (Same.refl _)))
    · cases e
  · rename_i e1 e2
    cases e1
    cases e2
    cases hx with
    | tup hx rx =>
    cases hy with
    | tup hy ry =>
    split at e
    · rename_i hz
      cases e
      have l1 := rx.length
      have l2 := ry.length
      refine .inr (.inr ⟨_, _, _, _, rfl, rfl, sqT_of (gh _ _ hx), sqT_of (gh _ _ hy), ?_, by rw [rx.length, ry.length]; exact sz_le hz.1, ?_, fun _ p np => ?_⟩)
      · intro z
        rw [z] at l1
        exact hz.2.1 l1.symm
      · intro z
        rw [z] at l2
        exact absurd l2.symm hz.2.2
      · exact k.tup gh rfl rfl np ((rx.mono zz_all (Same.refl _)).append (ry.mono zz_all2 (Same.refl _)))
    · cases e
  · cases e
/-- operations on two ints -/
def intF (C : Int → Int → Prop) [DecidableRel C] (g : Int → Int → PyData) : PB → PB → Option Rs
  | (.int i, _), (.int j, _) => if C i j then some (sc (g i j)) else none
  | _, _ => none
def scV : PyData → V
  | .bool b => .bl b
  | .int i => .int i
  | .str x => .str x
  | _ => .non
def isSc : PyData → Bool
  | .none => true
  | .bool _ => true
  | .int _ => true
  | .str _ => true
  | _ => false
theorem rp_sc {Z : Addr → Prop} {G : Hp} {d : PyData} (h : isSc d = true) : Rp Z G (scV d) d := by
  cases d <;> first | exact .non | exact .bl _ | exact .int _ | exact .str _ | cases h
theorem sc_rp {Z : Addr → Prop} {G : Hp} {d : PyData} {v : V} (r : Rp Z G v d) (h : isSc d = true) : v = scV d := by
  cases r <;> first | rfl | cases h
theorem ok_int {C : Int → Int → Prop} [DecidableRel C] {g : Int → Int → PyData} (hg : ∀ i j, isSc (g i j) = true) : Ok2 (rI C fun i j => scV (g i j)) (intF C g) := by
  intro Z G H x y p q res e hZ gh hx hy Q k
  obtain ⟨d, n⟩ := p
  obtain ⟨d', m⟩ := q
  dsimp only at hx hy
  unfold intF at e
  split at e
  · rename_i e1 e2
    cases e1
    cases e2
    cases hx
    cases hy
    split at e
    · rename_i hc
      cases e
      exact ⟨_, _, rfl, rfl, hc, k.val gh rfl (rp_sc (hg _ _))⟩
    · cases e
  · cases e
theorem ok_int0 {g : Int → Int → PyData} (hg : ∀ i j, isSc (g i j) = true) : Ok2 (rI0 fun i j => scV (g i j)) (intF (fun _ _ => True) g) := by
  intro Z G H x y p q res e hZ gh hx hy Q k
  obtain ⟨i, j, e1, e2, _, q⟩ := ok_int (C := fun _ _ => True) hg Z G H x y p q res e hZ gh hx hy Q k
  exact ⟨i, j, e1, e2, q⟩
/-- times: ints, a list -/
instance : DecidableRel CMul := fun i j => by unfold CMul; infer_instance
instance : DecidableRel CPowB := fun i j => by unfold CPowB; infer_instance
instance : DecidableRel CPow := fun i j => by unfold CPow; infer_instance
instance : DecidableRel CDiv := fun i j => by unfold CDiv; infer_instance
def mulF : PB → PB → Option Rs
  | (.int i, _), (.int j, _) => if CMul i j then some (sc (.int (i * j))) else none
  | (.list ds, n), (.int k, _) => if -(2 ^ 63) ≤ k ∧ k < 2 ^ 63 ∧ ds.length * k.toNat ≤ 100000 then some ⟨.list (List.replicate k.toNat ds).flatten, n, true⟩ else none
  | _, _ => none
def rMulZ : R2 := fun x y H Q => rI CMul (fun i j => .int (i * j)) x y H Q ∨ rRep x y H Q
theorem op_mulZ {X : Cx} : OpR X (binaryOp .Mult) rMulZ := by
  intro pins s σ H x y v u Q I rx ry h
  rcases h with h | h
  · exact op_mul pins s σ H x y v u Q I rx ry h
  · exact op_rep pins s σ H x y v u Q I rx ry h
theorem ok_mul : Ok2 rMulZ mulF := by
  intro Z G H x y p q res e hZ gh hx hy Q k
  obtain ⟨d, n⟩ := p
  obtain ⟨d', m⟩ := q
  dsimp only at hx hy
  unfold mulF at e
  split at e
  · rename_i e1 e2
    cases e1
    cases e2
    cases hx
    cases hy
    split at e
    · rename_i hc
      cases e
      exact .inl ⟨_, _, rfl, rfl, hc, k.val gh rfl (.int _)⟩
    · cases e
  · rename_i e1 e2
    cases e1
    cases e2
    cases hx with
    | lst hx _ rx =>
    cases hy
    split at e
    · rename_i hz
      cases e
      refine .inr ⟨_, _, _, rfl, rfl, gh _ _ hx, hz.1, hz.2.1, by rw [rx.length]; exact sz_le hz.2.2, fun p np => ?_⟩
      exact k.lst gh rfl rfl np (rx.flat _)
    · cases e
  · cases e
/-- equality of data -/
def strEq (neg : Bool) : PyData → PyData → Option Rs
  | .str a, .str b => some (sc (.bool (if neg then !decide (V.str a = V.str b) else decide (V.str a = V.str b))))
  | _, _ => none
def eqF (neg : Bool) : PB → PB → Option Rs := fun p q => if SeqAt.shaped p.1 && SeqAt.shaped q.1 then some (sc (.bool (if neg then !PyData.eqv p.1 q.1 else PyData.eqv p.1 q.1))) else strEq neg p.1 q.1
def rEqZ (K : PySem.W.Frag) : R2 := fun x y H Q => rEqD K x y H Q ∨ ∃ a b : PySem.Str, x = .str a ∧ y = .str b ∧ Q (.bl (decide (V.str a = V.str b))) H
def rNeZ (K : PySem.W.Frag) : R2 := fun x y H Q => rNeD K x y H Q ∨ ∃ a b : PySem.Str, x = .str a ∧ y = .str b ∧ Q (.bl (!decide (V.str a = V.str b))) H
theorem op_eqZ {X : Cx} (hu : X.A.units + 64 < cLine) : OpR X (compareOp .Eq) (rEqZ X.K) := by
  intro pins s σ H x y v u Q I rx ry h
  rcases h with h | ⟨a, b, e1, e2, h⟩
  · exact op_eqD hu pins s σ H x y v u Q I rx ry h
  · subst e1 e2
    exact op_eq pins s σ H _ _ v u Q I rx ry ⟨rfl, h⟩
theorem op_neZ {X : Cx} (hu : X.A.units + 64 < cLine) : OpR X (compareOp .NotEq) (rNeZ X.K) := by
  intro pins s σ H x y v u Q I rx ry h
  rcases h with h | ⟨a, b, e1, e2, h⟩
  · exact op_neD hu pins s σ H x y v u Q I rx ry h
  · subst e1 e2
    exact op_ne pins s σ H _ _ v u Q I rx ry ⟨rfl, h⟩
theorem ok_eq {K : PySem.W.Frag} : Ok2 (rEqZ K) (eqF false) := by
  intro Z G H x y p q res e hZ gh hx hy Q k
  unfold eqF at e
  split at e
  · rename_i hs
    rw [Bool.and_eq_true] at hs
    cases e
    exact .inl ⟨_, _, (hx.same gh).dp (noD hs.1), (hy.same gh).dp (noD hs.2), hs.1, hs.2, k.val gh rfl (.bl _)⟩
  · obtain ⟨d, n⟩ := p
    obtain ⟨d', m⟩ := q
    dsimp only at hx hy e
    unfold strEq at e
    split at e
    · cases e
      cases hx
      cases hy
      exact .inr ⟨_, _, rfl, rfl, k.val gh rfl (.bl _)⟩
    · cases e
theorem ok_ne {K : PySem.W.Frag} : Ok2 (rNeZ K) (eqF true) := by
  intro Z G H x y p q res e hZ gh hx hy Q k
  unfold eqF at e
  split at e
  · rename_i hs
    rw [Bool.and_eq_true] at hs
    cases e
    exact .inl ⟨_, _, (hx.same gh).dp (noD hs.1), (hy.same gh).dp (noD hs.2), hs.1, hs.2, k.val gh rfl (.bl _)⟩
  · obtain ⟨d, n⟩ := p
    obtain ⟨d', m⟩ := q
    dsimp only at hx hy e
    unfold strEq at e
    split at e
    · cases e
      cases hx
      cases hy
      exact .inr ⟨_, _, rfl, rfl, k.val gh rfl (.bl _)⟩
    · cases e
/-- x in a list of data; in a tuple of ints -/
def allInt : List PyData → Bool
  | [] => true
  | .int _ :: ds => allInt ds
  | _ => false
def inF (neg : Bool) : PB → PB → Option Rs
  | (d, _), (.list ds, _) => if SeqAt.shaped d && SeqAt.shaped (.list ds) then some (sc (.bool (if neg then !(ds.any fun z => PyData.eqv z d) else ds.any fun z => PyData.eqv z d))) else none
  | (.int i, _), (.tuple ds, _) => if allInt ds then some (sc (.bool (if neg then !(ds.any fun z => PyData.eqv z (.int i)) else ds.any fun z => PyData.eqv z (.int i)))) else none
  | _, _ => none
def rInZ (K : PySem.W.Frag) : R2 := fun x y H Q => rInD K x y H Q ∨ rIn K false x y H Q
def rNotInZ (K : PySem.W.Frag) : R2 := fun x y H Q => rNotInD K x y H Q ∨ rIn K true x y H Q
theorem op_inZ {X : Cx} (hu : X.A.units + 65 < cLine) : OpR X (compareOp .In) (rInZ X.K) := by
  intro pins s σ H x y v u Q I rx ry h
  rcases h with h | h
  · exact op_inD hu pins s σ H x y v u Q I rx ry h
  · exact op_in_seq pins s σ H x y v u Q I rx ry h
theorem op_notInZ {X : Cx} (hu : X.A.units + 65 < cLine) : OpR X (compareOp .NotIn) (rNotInZ X.K) := by
  intro pins s σ H x y v u Q I rx ry h
  rcases h with h | h
  · exact op_notInD hu pins s σ H x y v u Q I rx ry h
  · exact op_notIn_seq pins s σ H x y v u Q I rx ry h
theorem ints_of {Z : Addr → Prop} {G : Hp} : ∀ {xs : List V} {ds : List PyData}, RpA Z G xs ds → allInt ds = true → xs.all flatV = true ∧ ∀ i : Int, inV (.int i) xs = ds.any fun z => PyData.eqv z (.int i)
  | _, _, .nil, _ => ⟨rfl, fun _ => rfl⟩
  | _, _, .cons (d := d) r t, h => by
    cases d with
    | int j =>
      cases r
      obtain ⟨a, b⟩ := ints_of t (by simpa [allInt] using h)
      refine ⟨by rw [List.all_cons, a] <;> rfl, fun i => ?_⟩
      unfold inV
      rw [List.any_cons, List.any_cons]
      have b' := b i
      unfold inV at b'
      rw [b']
      congr 1
    | none => simp [allInt] at h
    | bool b => simp [allInt] at h
    | str b => simp [allInt] at h
    | list b => simp [allInt] at h
    | tuple b => simp [allInt] at h
    | dict b => simp [allInt] at h
theorem ok_in {K : PySem.W.Frag} : Ok2 (rInZ K) (inF false) := by
  intro Z G H x y p q res e hZ gh hx hy Q k
  obtain ⟨d, n⟩ := p
  obtain ⟨d', m⟩ := q
  dsimp only at hx hy
  unfold inF at e
  split at e
  · rename_i e1 e2
    cases e1
    cases e2
    split at e
    · rename_i hs
      rw [Bool.and_eq_true] at hs
      cases e
      exact .inl ⟨_, _, (hx.same gh).dp (noD hs.1), (hy.same gh).dp (noD hs.2), hs.1, hs.2, k.val gh rfl (.bl _)⟩
    · cases e
  · rename_i e1 e2
    cases e1
    cases e2
    cases hx
    cases hy with
    | tup hy ry =>
    split at e
    · rename_i hs
      cases e
      obtain ⟨a, b⟩ := ints_of ry hs
      refine .inr ⟨_, _, rfl, .inr (sqT_of (gh _ _ hy)), rfl, a, ?_⟩
      have := k.val gh rfl (.bl _)
      rw [b]
      exact this
    · cases e
  · cases e
theorem ok_notIn {K : PySem.W.Frag} : Ok2 (rNotInZ K) (inF true) := by
  intro Z G H x y p q res e hZ gh hx hy Q k
  obtain ⟨d, n⟩ := p
  obtain ⟨d', m⟩ := q
  dsimp only at hx hy
  unfold inF at e
  split at e
  · rename_i e1 e2
    cases e1
    cases e2
    split at e
    · rename_i hs
      rw [Bool.and_eq_true] at hs
      cases e
      exact .inl ⟨_, _, (hx.same gh).dp (noD hs.1), (hy.same gh).dp (noD hs.2), hs.1, hs.2, k.val gh rfl (.bl _)⟩
    · cases e
  · rename_i e1 e2
    cases e1
    cases e2
    cases hx
    cases hy with
    | tup hy ry =>
    split at e
    · rename_i hs
      cases e
      obtain ⟨a, b⟩ := ints_of ry hs
      refine .inr ⟨_, _, rfl, .inr (sqT_of (gh _ _ hy)), rfl, a, ?_⟩
      have := k.val gh rfl (.bl _)
      rw [b]
      exact this
    · cases e
  · cases e
/-- is None -/
def isNoneD : PyData → Bool
  | .none => true
  | _ => false
def isNF (neg : Bool) : PB → PB → Option Rs
  | (d, _), (.none, _) => some (sc (.bool (if neg then !isNoneD d else isNoneD d)))
  | _, _ => none
def rIsNZ : R2 := fun x y H Q => y = .non ∧ Q (.bl (decide (x = .non))) H
def rNotNZ : R2 := fun x y H Q => y = .non ∧ Q (.bl (!decide (x = .non))) H
theorem op_isNZ {X : Cx} : OpR X (compareOp .Is) rIsNZ := op_isN
theorem op_notNZ {X : Cx} : OpR X (compareOp .IsNot) rNotNZ := op_notN
theorem isN_rp {Z : Addr → Prop} {G : Hp} {v : V} {d : PyData} (r : Rp Z G v d) : decide (v = .non) = isNoneD d := by
  cases r <;> simp [isNoneD]
theorem ok_isN : Ok2 rIsNZ (isNF false) := by
  intro Z G H x y p q res e hZ gh hx hy Q k
  obtain ⟨d, n⟩ := p
  obtain ⟨d', m⟩ := q
  dsimp only at hx hy
  unfold isNF at e
  split at e
  · rename_i e1 e2
    cases e1
    cases e2
    cases hy
    cases e
    refine ⟨rfl, ?_⟩
    rw [isN_rp hx]
    exact k.val gh rfl (.bl _)
  · cases e
theorem ok_notN : Ok2 rNotNZ (isNF true) := by
  intro Z G H x y p q res e hZ gh hx hy Q k
  obtain ⟨d, n⟩ := p
  obtain ⟨d', m⟩ := q
  dsimp only at hx hy
  unfold isNF at e
  split at e
  · rename_i e1 e2
    cases e1
    cases e2
    cases hy
    cases e
    refine ⟨rfl, ?_⟩
    rw [isN_rp hx]
    exact k.val gh rfl (.bl _)
  · cases e
/-- xs[i] -/
def ixF : PB → PB → Option Rs
  | (.list ds, n), (.int i, _) => (atI ds i).map fun d => ⟨d, n, false⟩
  | (.tuple ds, n), (.int i, _) => (atI ds i).map fun d => ⟨d, n, false⟩
  | _, _ => none
def rIxZ (K : PySem.W.Frag) : R2 := fun x y H Q => rIxL K x y H Q ∨ rIxT K x y H Q
theorem ix_any {X : Cx} : IxR X (rIxZ X.K) := by
  intro value slice pins s σ H x y v u Q I rx ry h hs
  rcases h with h | h
  · exact ix_list value slice pins s σ H x y v u Q I rx ry h hs
  · exact ix_tup value slice pins s σ H x y v u Q I rx ry h hs
theorem atI_rp {Z : Addr → Prop} {G : Hp} {xs : List V} {ds : List PyData} {i : Int} {d : PyData} (r : RpA Z G xs ds) (h : atI ds i = some d) : ∃ v, atI xs i = some v ∧ Rp Z G v d := by
  unfold atI at h ⊢
  rw [r.length]
  obtain ⟨j, h1, h2⟩ := Option.bind_eq_some_iff.mp h
  obtain ⟨v, h3, h4⟩ := r.get h2
  exact ⟨v, by rw [h1]; exact h3, h4⟩
theorem ok_ix {K : PySem.W.Frag} : Ok2 (rIxZ K) ixF := by
  intro Z G H x y p q res e hZ gh hx hy Q k
  obtain ⟨d, n⟩ := p
  obtain ⟨d', m⟩ := q
  dsimp only at hx hy
  unfold ixF at e
  split at e
  · rename_i e1 e2
    cases e1
    cases e2
    cases hx with
    | lst hx _ rx =>
    cases hy
    obtain ⟨d, e1, rfl⟩ := Option.map_eq_some_iff.mp e
    obtain ⟨v, e2, rv⟩ := atI_rp rx e1
    exact .inl ⟨_, _, _, _, rfl, rfl, sqL_of (gh _ _ hx), e2, k.val gh rfl rv⟩
  · rename_i e1 e2
    cases e1
    cases e2
    cases hx with
    | tup hx rx =>
    cases hy
    obtain ⟨d, e1, rfl⟩ := Option.map_eq_some_iff.mp e
    obtain ⟨v, e2, rv⟩ := atI_rp rx e1
    exact .inr ⟨_, _, _, _, rfl, rfl, sqT_of (gh _ _ hx), e2, k.val gh rfl rv⟩
  · cases e
end Un

set_option maxRecDepth 100000
set_option maxHeartbeats 4000000
namespace Un
open PySem PySem.Spec PyProof.Rows L2
/-! ### {x} of a number or None -/
def tFmtN (te : TE) : TE := fun σ H Q => te σ H fun x H1 => (x = .non ∧ Q (.str "None") H1) ∨ ∃ i : Int, x = .int i ∧ i.natAbs.log2 < 1920 ∧ Q (.str (toString i)) H1
theorem pe_fmtN {X : Cx} {e : Expr} {te : TE} {pos : Pos} (he : PE X e te) : PE X (.FormattedValue e (-1) none pos) (tFmtN te) := by
  refine ⟨fun pins s σ H Q I start => wpAny_FormattedValue_plain (thn (he.run pins s σ H _ I start) ?_)⟩
  rintro v s1 ⟨x, H1, I1, r1, z⟩
  rcases z with ⟨rfl, z⟩ | ⟨i, rfl, hz, z⟩
  · obtain rfl : v = Value.none := r1
    exact wpAny_formatField_none ⟨.str "None", H1, I1.tok _, ⟨_, rfl⟩, z⟩
  · obtain ⟨t, rfl⟩ := r1
    exact wpAny_formatField_int hz ⟨.str (toString i), H1, I1.tok _, ⟨_, rfl⟩, z⟩
/-! ### any thing's class -/
def tyS : PyData → String
  | .none => "NoneType"
  | .bool _ => "bool"
  | .int _ => "int"
  | .str _ => "str"
  | .list _ => "list"
  | .tuple _ => "tuple"
  | .dict _ => "dict"
theorem tyRp {K : PySem.W.Frag} {Z : Addr → Prop} {H : Hp} {v : V} {d : PyData} (r : Rp Z H v d) : TyX K H v (.type (tyS d)) := by
  cases r with
  | non => exact .base .non
  | bl b => exact .base (.bl b)
  | int i => exact .base (.int i)
  | str x => exact .base (.str x)
  | lst h _ _ => exact .base (.lst h)
  | tup h _ => exact .base (.tup h)
  | dic h _ _ => exact .base (.dK h)
def isIntD : PyData → Bool
  | .int _ => true
  | .bool _ => true
  | _ => false
def isBoolD : PyData → Bool
  | .bool _ => true
  | _ => false
def isListD : PyData → Bool
  | .list _ => true
  | _ => false
def isTupD : PyData → Bool
  | .tuple _ => true
  | _ => false
theorem kInt {K : PySem.W.Frag} : ∀ d : PyData, PySem.W.kitOne K (.type (tyS d)) (.type "int") = some (isIntD d)
  | .none => kit_ty (a := "NoneType") (b := "int") (r := false) (by decide +kernel)
  | .bool _ => kit_ty (a := "bool") (b := "int") (r := true) (by decide +kernel)
  | .int _ => kit_ty (a := "int") (b := "int") (r := true) (by decide +kernel)
  | .str _ => kit_ty (a := "str") (b := "int") (r := false) (by decide +kernel)
  | .list _ => kit_ty (a := "list") (b := "int") (r := false) (by decide +kernel)
  | .tuple _ => kit_ty (a := "tuple") (b := "int") (r := false) (by decide +kernel)
  | .dict _ => kit_ty (a := "dict") (b := "int") (r := false) (by decide +kernel)
theorem kBool {K : PySem.W.Frag} : ∀ d : PyData, PySem.W.kitOne K (.type (tyS d)) (.type "bool") = some (isBoolD d)
  | .none => kit_ty (a := "NoneType") (b := "bool") (r := false) (by decide +kernel)
  | .bool _ => kit_ty (a := "bool") (b := "bool") (r := true) (by decide +kernel)
  | .int _ => kit_ty (a := "int") (b := "bool") (r := false) (by decide +kernel)
  | .str _ => kit_ty (a := "str") (b := "bool") (r := false) (by decide +kernel)
  | .list _ => kit_ty (a := "list") (b := "bool") (r := false) (by decide +kernel)
  | .tuple _ => kit_ty (a := "tuple") (b := "bool") (r := false) (by decide +kernel)
  | .dict _ => kit_ty (a := "dict") (b := "bool") (r := false) (by decide +kernel)
theorem kList {K : PySem.W.Frag} : ∀ d : PyData, PySem.W.kitOne K (.type (tyS d)) (.type "list") = some (isListD d)
  | .none => kit_ty (a := "NoneType") (b := "list") (r := false) (by decide +kernel)
  | .bool _ => kit_ty (a := "bool") (b := "list") (r := false) (by decide +kernel)
  | .int _ => kit_ty (a := "int") (b := "list") (r := false) (by decide +kernel)
  | .str _ => kit_ty (a := "str") (b := "list") (r := false) (by decide +kernel)
  | .list _ => kit_ty (a := "list") (b := "list") (r := true) (by decide +kernel)
  | .tuple _ => kit_ty (a := "tuple") (b := "list") (r := false) (by decide +kernel)
  | .dict _ => kit_ty (a := "dict") (b := "list") (r := false) (by decide +kernel)
theorem kTup {K : PySem.W.Frag} : ∀ d : PyData, PySem.W.kitOne K (.type (tyS d)) (.type "tuple") = some (isTupD d)
  | .none => kit_ty (a := "NoneType") (b := "tuple") (r := false) (by decide +kernel)
  | .bool _ => kit_ty (a := "bool") (b := "tuple") (r := false) (by decide +kernel)
  | .int _ => kit_ty (a := "int") (b := "tuple") (r := false) (by decide +kernel)
  | .str _ => kit_ty (a := "str") (b := "tuple") (r := false) (by decide +kernel)
  | .list _ => kit_ty (a := "list") (b := "tuple") (r := false) (by decide +kernel)
  | .tuple _ => kit_ty (a := "tuple") (b := "tuple") (r := true) (by decide +kernel)
  | .dict _ => kit_ty (a := "dict") (b := "tuple") (r := false) (by decide +kernel)
/-! ### what is refused -/
abbrev Tr : Addr → Prop := fun _ => True
def isWd : PyData → Bool
  | .int _ => true
  | _ => false
theorem isWd_is (d : PyData) : isWd d = (isIntD d && !isBoolD d) := by cases d <;> rfl
def isCd (n : Int) : PyData → Bool
  | .int i => decide (1 ≤ i ∧ i ≤ n)
  | _ => false
def isXd (n : Int) : PyData → Bool
  | .tuple [.int u, .int v] => isCd n (.int u) && isCd n (.int v) && decide (u < v)
  | _ => false
def pairD : PyData → Int × Int
  | .tuple [.int u, .int v] => (u, v)
  | _ => (0, 0)
def leq2 (p q : Int × Int) : Bool := decide (p.1 < q.1 ∨ (p.1 = q.1 ∧ p.2 ≤ q.2))
/-- the first wrong thing of a web, behind the exchange `before` -/
def webGo (n : Int) (before : Int × Int) (i : Nat) : List PyData → Option Nat
  | [] => none
  | d :: ds => if !isXd n d || leq2 (pairD d) before then some i else webGo n (pairD d) (i + 1) ds
def idxD : Option Nat → PyData
  | none => .none
  | some i => .int (i : Nat)
def idxV : Option Nat → V
  | none => .non
  | some i => .int (i : Nat)
theorem idx_rp {Z : Addr → Prop} {H : Hp} (o : Option Nat) : Rp Z H (idxV o) (idxD o) := by
  cases o with
  | none => exact .non
  | some i => exact .int _
/-- none: nothing is wrong; some none: no list -/
def webBad (n : Int) : PyData → Option (Option Nat)
  | .list ds => (webGo n (0, 0) 0 ds).map some
  | _ => some none
def cellsBad (lo hi : Int) : PyData → Bool
  | .int i => !decide (lo ≤ i ∧ i ≤ hi)
  | _ => true
/-! ### an error of one field, raised -/
/-- what stands of an error that flies: its class, its one field -/
def FliesE (C : Addr) (fld : PySem.Str) (v : V) (H : Hp) (E : XK) : Prop := ∀ (d : Addr) (H' : Hp), Same H H' → H d = none → H' d = some (.xd [(fld, v)]) → E (.ref C) (some d) H'
/-- the class x has one field, and its instances are made so -/
structure ErrC (P : Program) (w : World) (K : PySem.W.Frag) (mg : PySem.Str → Option Value) (base : Heap) (x fld : PySem.Str) (ok : V → Prop) (C : Addr) : Prop where
  hm : mg x = some (.ref C)
  ec : ExcC K C
  no : PySem.W.findIn K (.ref C) fld = some none
  made : ∀ {X : Cx} {e : Expr} {te : TE} {p pos : Pos}, X.prog = P → X.w = w → X.K = K → X.mg = mg → X.base = base → Room 3 X.A → Gl X x → PE X e te → (starEach [e] X.env = (false, eval e X.env) :: starEach [] X.env) →
    PMk X (.Call (.Name x p) [e] [] pos) fun σ H Q => te σ H fun v H1 => ok v ∧ FliesE C fld v H1 Q
/-- raise X(e) -/
def tRaiseE (W : WX) (ok : V → Prop) (C : Addr) (fld : PySem.Str) (te : TE) : TS := fun _ σ H => te σ H fun v H1 => ok v ∧ FliesE C fld v H1 fun cls d H' => W cls d σ H'
theorem ps_raiseE {X : Cx} {W : WX} {ok : V → Prop} {x fld : PySem.Str} {C : Addr} {e : Expr} {te : TE} {p pos pos' : Pos} (T : ErrC X.prog X.w X.K X.mg X.base x fld ok C) (hr : Room 3 X.A) (hc : X.calm = true) (tk : Takes X W) (hg : Gl X x) (he : PE X e te)
    (hse : starEach [e] X.env = (false, eval e X.env) :: starEach [] X.env := by rfl) : PS X (.Raise (some (.Call (.Name x p) [e] [] pos)) none pos') (tRaiseE W ok C fld te) := by
  refine ⟨fun pins s σ H D I h => ?_⟩
  exact (ps_raise hc tk (T.made (X := X) rfl rfl rfl rfl rfl hr hg he hse)).run pins s σ H D I h
/-- what the __init__ of such a class promises -/
def spInit1 (K : PySem.W.Frag) (fld : PySem.Str) (ok : V → Prop) : Sp := fun vs H Q _ => ∃ (a C : Addr) (v : V), vs = [.ref a, v] ∧ ok v ∧ OexC K C ∧ H a = some (exo a C none) ∧ PySem.W.findIn K (.ref C) fld = some none ∧
  ∀ dx, H dx = none → dx ≠ a → Q .non (upd (upd H dx (exd dx [(fld, v)])) a (exo a C (some dx)))
def spInit1L (K : PySem.W.Frag) (fld : PySem.Str) : Sp := fun vs H Q _ => ∃ (a C : Addr) (v : V), vs = [.ref a, v] ∧ OexL K C ∧ H a = some (exo a C none) ∧ PySem.W.findIn K (.ref C) fld = some none ∧
  ∀ dx, H dx = none → dx ≠ a → Q .non (upd (upd H dx (exd dx [(fld, v)])) a (exo a C (some dx)))
theorem same_made {H1 : Hp} {a d C : Addr} {fs : List (PySem.Str × V)} (na : H1 a = none) (nd : H1 d = none) (H2 : Hp) (e : H2 = upd (upd (upd H1 a (exo a C none)) d (exd d fs)) a (exo a C (some d))) (nda : d ≠ a) :
    Same H1 (upd (del H2 a) d (.xd fs)) := fun b o q => by
  have n1 : b ≠ d := ne_of_none q nd
  have n2 : b ≠ a := ne_of_none q na
  rw [upd_ne n1, del_ne n2, e, upd_ne n2, upd_ne n1, upd_ne n2]
  exact q
end Un

set_option maxRecDepth 100000
set_option maxHeartbeats 4000000
namespace Un
open PySem PySem.Spec PyProof.Rows L2
def AnyV : V → Prop := fun _ => True
def IdxV : V → Prop := fun v => v = .non ∨ ∃ i : Int, v = .int i ∧ i.natAbs < 10 ^ 12
/-- a reading that bears weaker wishes -/
def tMono (te : TE) : TE := fun σ H Q => ∃ Q0 : VK, te σ H Q0 ∧ ∀ v H1, Q0 v H1 → Q v H1
theorem pe_mono {X : Cx} {e : Expr} {te : TE} (he : PE X e te) : PE X e (tMono te) := ⟨fun pins s σ H Q I ⟨Q0, h, k⟩ => thn (he.run pins s σ H Q0 I h) fun v s1 ⟨x, H1, I1, r1, q⟩ => ⟨x, H1, I1, r1, k _ _ q⟩⟩
section
variable {P : Program} {w : World} {K : PySem.W.Frag} {mg : PySem.Str → Option Value} {base : Heap} {x fld : PySem.Str} {ok : V → Prop} {C fI : Addr} {fd : FuncData}
/-- over ValueError -/
theorem errC_v (hm : mg x = some (.ref C)) (T : OexC K C) (ec : ExcC K C) (no : PySem.W.findIn K (.ref C) fld = some none) (iC : PySem.W.findIn K (.ref C) "__init__" = some (some (.ref fI))) (tI : PySem.W.typeIn K (.ref fI) = some (.type "function"))
    (F1 : FnOk P w K mg base CX0 1 fI fd ["self", fld] (spInit1 K fld ok)) (hb : Binds K fd ["self", fld] []) (hdb : (x == ("__debug__" : PySem.Str)) = false) : ErrC P w K mg base x fld ok C := by
  refine ⟨hm, ec, no, ?_⟩
  intro X e te p pos e1 e2 e3 e4 e5 hr hg he hse
  subst e1 e2 e3 e4 e5
  intro pins s σ H Q I h
  refine pmk_oex (CX := CX0) (ds := []) (dvs := []) T iC tI F1 (hr.mono (by decide)) hb .nil pass0 hg hm (pa_cons (pe_mono he) pa_nil (hs := hse)) hdb hse rfl pins s σ H Q I ⟨_, h, fun v H1 ⟨hok, q⟩ => ⟨(by decide : 1 ≤ 1000), fun a na => ?_⟩⟩
  refine ⟨a, C, v, rfl, hok, T, upd_same, no, fun dx ndx nda => ⟨rfl, dx, [(fld, v)], upd_same, ?_, ?_, ?_⟩⟩
  · rw [upd_ne nda, upd_same]
  · rw [upd_ne nda] at ndx
    exact ndx
  · rw [upd_ne nda] at ndx
    exact q _ _ (same_made na ndx _ rfl nda) ndx upd_same
/-- over LookupError -/
theorem errC_l (hm : mg x = some (.ref C)) (T : OexL K C) (ec : ExcC K C) (no : PySem.W.findIn K (.ref C) fld = some none) (iC : PySem.W.findIn K (.ref C) "__init__" = some (some (.ref fI))) (tI : PySem.W.typeIn K (.ref fI) = some (.type "function"))
    (F1 : FnOk P w K mg base CX0 1 fI fd ["self", fld] (spInit1L K fld)) (hb : Binds K fd ["self", fld] []) (hdb : (x == ("__debug__" : PySem.Str)) = false) : ErrC P w K mg base x fld AnyV C := by
  refine ⟨hm, ec, no, ?_⟩
  intro X e te p pos e1 e2 e3 e4 e5 hr hg he hse
  subst e1 e2 e3 e4 e5
  intro pins s σ H Q I h
  refine pmk_oexL (CT := CX0) (ds := []) (dvs := []) T iC tI F1 (hr.mono (by decide)) hb .nil pass0 hg hm (pa_cons (pe_mono he) pa_nil (hs := hse)) hdb hse rfl pins s σ H Q I ⟨_, h, fun v H1 ⟨hok, q⟩ => ⟨(by decide : 1 ≤ 1000), fun a na => ?_⟩⟩
  refine ⟨a, C, v, rfl, T, upd_same, no, fun dx ndx nda => ⟨rfl, dx, [(fld, v)], upd_same, ?_, ?_, ?_⟩⟩
  · rw [upd_ne nda, upd_same]
  · rw [upd_ne nda] at ndx
    exact ndx
  · rw [upd_ne nda] at ndx
    exact q _ _ (same_made na ndx _ rfl nda) ndx upd_same
end
end Un

set_option maxRecDepth 100000
set_option maxHeartbeats 4000000
namespace Un
open PySem PySem.Spec PyProof.Rows L2
theorem vValue {K : PySem.W.Frag} : PySem.W.findCls K (.type "ValueError") (.type "type") "__init__" = some (.val (.builtin "ValueError.__init__")) := by kernel_rfl
theorem vLookup {K : PySem.W.Frag} : PySem.W.findCls K (.type "LookupError") (.type "type") "__init__" = some (.val (.builtin "LookupError.__init__")) := by kernel_rfl
theorem tyLookup : typeOf (.type "LookupError") = pure (.type "type") := by kernel_rfl
/-- a def that may raise, by its name -/
structure CalX (P : Program) (w : World) (K : PySem.W.Frag) (mg : PySem.Str → Option Value) (base : Heap) (k : Nat) (x : PySem.Str) (sp : Sp) (dvs : List V) : Prop where
  ex : ∃ (f : Addr) (fd : FuncData) (ps : List PySem.Str) (ds : List Value), FnOk P w K mg base (L2.CX P w) k f fd ps sp ∧ mg x = some (.ref f) ∧ PySem.W.keepIn K (.ref f) = true ∧ Binds K fd ps ds ∧ Vals dvs ds
theorem pe_cX {X : Cx} {j k : Nat} {x : PySem.Str} {sp : Sp} {dvs : List V} {E : XK} {p pos : Pos} {e : Expr} {es : List Expr} {t : TA} (tk : Takes X fun cls d _ H => E cls d H) (c : CalX X.prog X.w X.K X.mg X.base k x sp dvs) (hr : Room j X.A) (hk : k ≤ j) (hg : Gl X x) (ha : PA X (e :: es) t)
    (hdb : (x == ("__debug__" : PySem.Str)) = false := by decide) (he : starEach (e :: es) X.env = (false, eval e X.env) :: starEach es X.env := by rfl) (hpl : (backTo pos (starEach es X.env)).any (·.1) = false := by rfl) :
    PE X (.Call (.Name x p) (e :: es) [] pos) (tCall sp dvs E t) := by
  obtain ⟨f, fd, ps, ds, F, hm, kp, hb, hv⟩ := c.ex
  exact pe_call F (hr.mono hk) hg hm kp hb hv (passes_call tk fun _ _ _ _ h => h) ha hdb he hpl
/-! ### the kinds of errors -/
inductive ErK where
  | cells | web | log | ends | cell | number
deriving DecidableEq
def ErK.fld : ErK → PySem.Str
  | .cells => "cells"
  | .web => "index"
  | .log => "index"
  | .ends => "index"
  | .cell => "cell"
  | .number => "number"
/-- an error of this kind flies, with this thing -/
def RefE (Ea : ErK → Addr) (kd : ErK) (pd : PyData) (H : Hp) (E : XK) : Prop := ∀ (v : V) (H' : Hp), Same H H' → Rp Tr H v pd → FliesE (Ea kd) kd.fld v H' E
def shortD (d : PyData) : Prop := ∀ ds, d = .list ds → ds.length ≤ 1000
theorem int_of_bad {lo hi : Int} {d : PyData} (h : cellsBad lo hi d = false) : ∃ n, d = .int n := by
  cases d <;> first | exact ⟨_, rfl⟩ | cases h
/-- any statement, where it is not come to -/
theorem pss_never {X : Cx} {b : List Stmt} : PSs X b tNever := ⟨fun _ _ _ _ _ _ h => h.elim⟩
end Un

set_option maxRecDepth 100000
set_option maxHeartbeats 4000000
namespace Un
open PySem PySem.Spec PyProof.Rows L2
structure TxE (mg : Str → Option Value) : Prop where
  n_ValueError : mg "ValueError" = none
  n_LookupError : mg "LookupError" = none
section
variable {P : Program} {w : World} {K : PySem.W.Frag} {mg : Str → Option Value} {base : Heap}
/-! ### how errors are made -/
theorem ini_InvalidCells {f : Addr} {fd : FuncData} (F : Fun K "__init__" "InvalidCells.__init__" s_InvalidCells___init__ f fd) (T : TxE mg) : FnOk P w K mg base CX0 1 f fd ["self", "cells"] (spInit1 K "cells" AnyV) := by
  refine F.ok sc_InvalidCells___init__ (fun vs H Q E h => ?_) (fun cdv A outer s H vs Q E hr h => ?_)
  · obtain ⟨a, C, v, rfl, _⟩ := h
    rfl
  · obtain ⟨a, C, v, rfl, _, TC, e, no, q⟩ := h
    refine ⟨_, pss_cons (ps_expr (pe_veinit (by rfl) T.n_ValueError vValue (pa_cons (pv 0) (pa_cons pe_str pa_nil)))) (pss_one (ps_ost (pv 0) (pv 1))), ?_⟩
    refine ⟨_, rfl, a, C, _, rfl, (by decide : 1 ≤ 1000), TC, e, ?_⟩
    exact ⟨_, rfl, _, rfl, a, C, rfl, TC, no, .inl ⟨e, q⟩⟩
theorem ini_InvalidWeb {f : Addr} {fd : FuncData} (F : Fun K "__init__" "InvalidWeb.__init__" s_InvalidWeb___init__ f fd) (T : TxE mg) : FnOk P w K mg base CX0 1 f fd ["self", "index"] (spInit1 K "index" IdxV) := by
  refine F.ok sc_InvalidWeb___init__ (fun vs H Q E h => ?_) (fun cdv A outer s H vs Q E hr h => ?_)
  · obtain ⟨a, C, v, rfl, _⟩ := h
    rfl
  · obtain ⟨a, C, v, rfl, hv, TC, e, no, q⟩ := h
    refine ⟨_, pss_cons (ps_expr (pe_veinit (by rfl) T.n_ValueError vValue (pa_cons (pv 0) (pa_cons (pe_joined (PJ.cons pe_str (PJ.cons (pe_fmtN (pv 1)) (PJ.cons pe_str .nil)))) pa_nil)))) (pss_one (ps_ost (pv 0) (pv 1))), ?_⟩
    have last : ∀ x : V, ∃ (a' C' : Addr) (ws : List V), [V.ref a, x] = .ref a' :: ws ∧ ws.length ≤ 1000 ∧ OexC K C' ∧ H a' = some (exo a' C' none) ∧ tOst K "index" (tVar 0) (tVar 1) { nx := fun _ H' => Q .non H', rt := Q } (start ["self", "index"] [.ref a, v]) H := fun x =>
      ⟨a, C, [x], rfl, (by decide : 1 ≤ 1000), TC, e, v, rfl, .ref a, rfl, a, C, rfl, TC, no, .inl ⟨e, q⟩⟩
    refine ⟨.ref a, rfl, ?_⟩
    have sz : ∀ {y : Str}, y.length ≤ 700 → y.length ≤ sizeLine := fun {y} h => Nat.le_trans h (by decide)
    rcases hv with rfl | ⟨i, rfl, hi⟩
    · exact ⟨_, rfl, by decide +kernel, .non, rfl, .inl ⟨rfl, _, rfl, by decide +kernel, _, rfl, by decide +kernel, last _⟩⟩
    · have l13 : (toString i : Str).length ≤ 13 := PyData.shown_int_le hi
      refine ⟨_, rfl, by decide +kernel, .int i, rfl, .inr ⟨i, rfl, log_small hi, _, rfl, sz ?_, _, rfl, sz ?_, last _⟩⟩
      · rw [Str.length_append]
        exact Nat.le_trans (Nat.add_le_add (by decide +kernel : _ ≤ 100) l13) (by decide)
      · rw [Str.length_append, Str.length_append]
        exact Nat.le_trans (Nat.add_le_add (Nat.add_le_add (by decide +kernel : _ ≤ 100) l13) (by decide +kernel : _ ≤ 100)) (by decide)
def spWholeX : Sp := fun vs H Q _ => ∃ (v : V) (d : PyData), vs = [v] ∧ Rp Tr H v d ∧ Q (.bl (isWd d)) H
theorem okx_is_whole {f : Addr} {fd : FuncData} (F : Fun K "is_whole" "is_whole" s_is_whole f fd) (T : Txt mg) : FnOk P w K mg base CX0 1 f fd ["thing"] spWholeX := by
  refine F.ok sc_is_whole (fun vs H Q E h => ?_) (fun cdv A outer s H vs Q E hr h => ?_)
  · obtain ⟨v, d, rfl, _⟩ := h
    rfl
  · obtain ⟨v, d, rfl, r, q⟩ := h
    refine ⟨_, (pss_one (ps_ret (pe_and (pe_callB call_isi (by rfl) T.n_isinstance (by decide +kernel) (pa_cons (pv 0) (pa_cons (pe_bltn (v := .ty "int") (by rfl) T.n_int (by decide +kernel) rfl) pa_nil))) (pe_one (pe_not (pe_callB call_isi (by rfl) T.n_isinstance (by decide +kernel) (pa_cons (pv 0) (pa_cons (pe_bltn (v := .ty "bool") (by rfl) T.n_bool (by decide +kernel) rfl) pa_nil)))))))), ?_⟩
    refine ⟨_, rfl, v, .ty "int", .type (tyS d), .type "int", isIntD d, rfl, .ty _, tyRp r, kInt d, isIntD d, rfl, ?_⟩
    rw [isWd_is] at q
    cases hI : isIntD d with
    | true =>
      rw [hI, Bool.true_and] at q
      exact iteT ⟨_, rfl, v, .ty "bool", .type (tyS d), .type "bool", isBoolD d, rfl, .ty _, tyRp r, kBool d, isBoolD d, rfl, q⟩
    | false =>
      rw [hI, Bool.false_and] at q
      exact iteF q
def spCellX : Sp := fun vs H Q _ => ∃ (n : Int) (v : V) (d : PyData), vs = [.int n, v] ∧ Rp Tr H v d ∧ Q (.bl (isCd n d)) H
theorem okx_is_cell {f : Addr} {fd : FuncData} (F : Fun K "is_cell" "is_cell" s_is_cell f fd) (c : C8.Cal P w K mg base 1 "is_whole" spWholeX []) : FnOk P w K mg base CX0 2 f fd ["cells", "thing"] spCellX := by
  refine F.ok sc_is_cell (fun vs H Q E h => ?_) (fun cdv A outer s H vs Q E hr h => ?_)
  · obtain ⟨n, v, d, rfl, _⟩ := h
    rfl
  · obtain ⟨n, v, d, rfl, r, q⟩ := h
    refine ⟨_, (pss_one (ps_ret (pe_and (C8.pe_c c hr (by decide) (by rfl) (pa_cons (pv 1) pa_nil)) (pe_one (pe_chain op_le op_le pe_int (pv 1) (pv 0)))))), ?_⟩
    refine ⟨_, rfl, v, d, rfl, r, isWd d, rfl, ?_⟩
    cases r with
    | int i =>
      refine iteT ⟨_, rfl, 1, i, rfl, rfl, decide (1 ≤ i), rfl, ?_⟩
      by_cases h1 : 1 ≤ i
      · rw [decide_eq_true h1]
        refine iteT ⟨_, rfl, i, n, rfl, rfl, ?_⟩
        have e : isCd n (.int i) = decide (i ≤ n) := by
          show decide (1 ≤ i ∧ i ≤ n) = decide (i ≤ n)
          by_cases h2 : i ≤ n
          · rw [decide_eq_true h2, decide_eq_true ⟨h1, h2⟩]
          · rw [decide_eq_false h2, decide_eq_false fun z => h2 z.2]
        rw [e] at q
        exact q
      · rw [decide_eq_false h1]
        have e : isCd n (.int i) = false := decide_eq_false fun z => h1 z.1
        rw [e] at q
        exact iteF q
    | non => exact iteF q
    | bl b => exact iteF q
    | str x => exact iteF q
    | lst _ _ _ => exact iteF q
    | tup _ _ => exact iteF q
    | dic _ _ _ => exact iteF q
def spExchX : Sp := fun vs H Q _ => ∃ (n : Int) (v : V) (d : PyData), vs = [.int n, v] ∧ Rp Tr H v d ∧ Q (.bl (isXd n d)) H
theorem isXd_len {n : Int} {ds : List PyData} (h : ds.length ≠ 2) : isXd n (.tuple ds) = false := by
  unfold isXd
  split
  · rename_i e
    cases e
    exact (h rfl).elim
  · rfl
theorem isXd_two (n : Int) (a b : PyData) : isXd n (.tuple [a, b]) = (isCd n a && isCd n b && (match a, b with | .int u, .int v => decide (u < v) | _, _ => false)) := by
  unfold isXd
  split
  · rename_i e
    cases e
    rfl
  · rename_i h
    cases a <;> cases b <;> first | exact (h _ _ rfl).elim | simp [isCd]
theorem okx_is_exchange {f : Addr} {fd : FuncData} (F : Fun K "is_exchange" "is_exchange" s_is_exchange f fd) (T : Txt mg) (c : C8.Cal P w K mg base 2 "is_cell" spCellX []) : FnOk P w K mg base CX0 3 f fd ["cells", "thing"] spExchX := by
  refine F.ok sc_is_exchange (fun vs H Q E h => ?_) (fun cdv A outer s H vs Q E hr h => ?_)
  · obtain ⟨n, v, d, rfl, _⟩ := h
    rfl
  · obtain ⟨n, v, d, rfl, r, q⟩ := h
    refine ⟨_, (pss_cons (ps_if (PW.pt (pw_or (pt_not (pt_val (pe_callB call_isi (by rfl) T.n_isinstance (by decide +kernel) (pa_cons (pv 1) (pa_cons (pe_bltn (v := .ty "tuple") (by rfl) T.n_tuple (by decide +kernel) rfl) pa_nil))))) (pw_or1 (pt_cmpR op_ne (pe_callB call_len_seq (by rfl) T.n_len (by decide +kernel) (pa_cons (pv 1) pa_nil)) pe_int (by rfl))))) (pss_one (ps_ret pe_bl)) pss_nil)
      (pss_cons (ps_asg (pv 1) (pg_tup rfl (pgs_cons (pg_name (i := 2) sc_is_exchange.nd rfl (by first | exact Or.inl rfl | exact Or.inr rfl)) (pgs_cons (pg_name (i := 3) sc_is_exchange.nd rfl (by first | exact Or.inl rfl | exact Or.inr rfl)) pgs_nil))))
      (pss_one (ps_ret (pe_and (C8.pe_c c hr (by decide) (by rfl) (pa_cons (pv 0) (pa_cons (pv 2) pa_nil))) (pe_and (C8.pe_c c hr (by decide) (by rfl) (pa_cons (pv 0) (pa_cons (pv 3) pa_nil))) (pe_one (pe_cmpR op_lt (pv 2) (pv 3) (by rfl))))))))), ?_⟩
    refine ⟨_, rfl, v, .ty "tuple", .type (tyS d), .type "tuple", isTupD d, rfl, .ty _, tyRp r, kTup d, isTupD d, rfl, ?_⟩
    cases r with
    | @tup t xs ds ht ra =>
      refine iteF ⟨_, rfl, t, xs, rfl, .inr (sqT_of ht), rfl, !decide (V.int (xs.length : Nat) = V.int 2), rfl, ?_⟩
      by_cases h2 : ds.length = 2
      · have hx : xs.length = 2 := ra.length.trans h2
        rw [hx]
        refine iteF ?_
        obtain ⟨x, y, rfl⟩ : ∃ x y, xs = [x, y] := by
          match xs, hx with
          | [x, y], _ => exact ⟨x, y, rfl⟩
        obtain ⟨a, b, rfl⟩ : ∃ a b, ds = [a, b] := by
          match ds, h2 with
          | [a, b], _ => exact ⟨a, b, rfl⟩
        rw [isXd_two] at q
        cases ra with
        | cons r1 ra =>
        cases ra with
        | cons r2 ra =>
        refine ⟨_, rfl, t, _, rfl, sqT_of ht, rfl, _, _, rfl, _, _, rfl, rfl, ?_⟩
        refine ⟨_, rfl, _, rfl, n, x, a, rfl, r1, isCd n a, rfl, ?_⟩
        cases c1 : isCd n a with
        | false =>
          rw [c1, Bool.false_and, Bool.false_and] at q
          exact iteF q
        | true =>
          refine iteT ⟨_, rfl, _, rfl, n, y, b, rfl, r2, isCd n b, rfl, ?_⟩
          cases c2 : isCd n b with
          | false =>
            rw [c1, c2, Bool.true_and, Bool.false_and] at q
            exact iteF q
          | true =>
            rw [c1, c2, Bool.true_and, Bool.true_and] at q
            cases r1 with
            | int u =>
              cases r2 with
              | int u2 => exact iteT ⟨_, rfl, _, rfl, u, u2, rfl, rfl, q⟩
              | _ => exact absurd c2 (by simp [isCd])
            | _ => exact absurd c1 (by simp [isCd])
      · have hx : xs.length ≠ 2 := fun z => h2 (ra.length.symm.trans z)
        rw [isXd_len h2] at q
        have e : decide (V.int (xs.length : Nat) = V.int 2) = false := decide_eq_false fun z => hx (by
          have := V.int.inj z
          omega)
        rw [e]
        exact iteT q
    | _ => exact iteT q
/-- cells, with its bounds -/
def spChkCellsX (Cc : Addr) : Sp := fun vs H Q E => ∃ (v : V) (d : PyData), vs = [v, .int 1, .int 16] ∧ Rp Tr H v d ∧ (cellsBad 1 16 d = false → Q .non H) ∧ (cellsBad 1 16 d = true → FliesE Cc "cells" v H E)
theorem okx_check_cells {f Cc : Addr} {fd : FuncData} (F : FunDD K "check_cells" s_check_cells [.int 1, .int 16] f fd) (c : C8.Cal P w K mg base 1 "is_whole" spWholeX []) (TE : ErrC P w K mg base "InvalidCells" "cells" AnyV Cc) :
    FnOk P w K mg base (L2.CX P w) 4 f fd ["cells", "least", "most"] (spChkCellsX Cc) := by
  refine FunD.ok (CX := L2.CX P w) F sc_check_cells (fun vs H Q E h => ?_) (fun cdv A outer s H vs Q E hr h => ?_)
  · obtain ⟨v, d, rfl, _⟩ := h
    rfl
  · obtain ⟨v, d, rfl, r, q, e⟩ := h
    refine ⟨_, (pss_one (ps_if (PW.pt (pw_or (pt_not (pt_val (C8.pe_c c hr (by decide) (by rfl) (pa_cons (pv 0) pa_nil)))) (pw_or1 (pt_not (pt_chain op_le op_le (pv 1) (pv 0) (pv 2)))))) (pss_one (ps_raiseE (TE) hr rfl (takes_of rfl rfl rfl rfl) (by rfl) (pv 0))) pss_nil)), ?_⟩
    refine ⟨_, rfl, v, d, rfl, r, isWd d, rfl, ?_⟩
    cases r with
    | int i =>
      refine iteF ⟨_, rfl, _, rfl, 1, i, rfl, rfl, decide (1 ≤ i), rfl, ?_⟩
      by_cases h1 : 1 ≤ i
      · rw [decide_eq_true h1]
        refine iteT ⟨_, rfl, i, 16, rfl, rfl, decide (i ≤ 16), rfl, ?_⟩
        by_cases h2 : i ≤ 16
        · rw [decide_eq_true h2]
          exact iteF (q (by simp [cellsBad, h1, h2]))
        · rw [decide_eq_false h2]
          exact iteT ⟨_, rfl, trivial, e (by simp [cellsBad, h2])⟩
      · rw [decide_eq_false h1]
        exact iteF ⟨false, rfl, iteT ⟨_, rfl, trivial, e (by simp [cellsBad, h1])⟩⟩
    | _ =>
      refine iteT ?_
      exact ⟨_, rfl, trivial, e rfl⟩
theorem isXd_pair {n : Int} {v : V} {d : PyData} {H : Hp} (r : Rp Tr H v d) (h : isXd n d = true) : ∃ (t : Addr) (u w : Int), v = .ref t ∧ d = .tuple [.int u, .int w] ∧ H t = some (.tup [.int u, .int w]) := by
  unfold isXd at h
  split at h
  · rename_i u w
    cases r with
    | tup ht ra =>
    cases ra with
    | cons r1 ra =>
    cases ra with
    | cons r2 ra =>
    cases ra
    cases r1
    cases r2
    exact ⟨_, u, w, rfl, rfl, ht⟩
  · cases h
/-- what a web must be, or which error flies -/
def webAsk (Cw : Addr) (n : Int) (d : PyData) (H : Hp) (Q : VK) (E : XK) : Prop := (webBad n d = none → ∀ H', Same H H' → Q .non H') ∧ ∀ o, webBad n d = some o → ∀ H', Same H H' → FliesE Cw "index" (idxV o) H' E
def spChkWebX (Cw : Addr) : Sp := fun vs H Q E => ∃ (n : Int) (v : V) (d : PyData), vs = [.int n, v] ∧ Rp Tr H v d ∧ (∀ ds, d = .list ds → ds.length ≤ 1000) ∧ webAsk Cw n d H Q E
theorem webGo_cons {n : Int} {b : Int × Int} {i : Nat} {d : PyData} {ds : List PyData} : webGo n b i (d :: ds) = if (!isXd n d || leq2 (pairD d) b) = true then some i else webGo n (pairD d) (i + 1) ds := by
  rw [webGo]
theorem okx_check_web {f Cw : Addr} {fd : FuncData} (F : Fun K "check_web" "check_web" s_check_web f fd) (T : Txt mg) (c : C8.Cal P w K mg base 3 "is_exchange" spExchX []) (TE : ErrC P w K mg base "InvalidWeb" "index" IdxV Cw) :
    FnOk P w K mg base (L2.CX P w) 5 f fd ["cells", "web"] (spChkWebX Cw) := by
  refine F.okX sc_check_web (fun vs H Q E h => ?_) (fun cdv A outer s H vs Q E hr h => ?_)
  · obtain ⟨n, v, d, rfl, _⟩ := h
    rfl
  · obtain ⟨n, v, d, rfl, r, hlen, q, e⟩ := h
    refine ⟨_, (pss_cons (ps_if (pt_not (pt_val (pe_callB call_isi (by rfl) T.n_isinstance (by decide +kernel) (pa_cons (pv 1) (pa_cons (pe_bltn (v := .ty "list") (by rfl) T.n_list (by decide +kernel) rfl) pa_nil))))) (pss_one (ps_raiseE TE (hr.mono (by decide)) rfl (takes_of rfl rfl rfl rfl) (by rfl) pe_non)) pss_nil)
      (pss_cons (ps_set (i := 2) sc_check_web.nd rfl (by first | exact Or.inl rfl | exact Or.inr rfl) (pe_tup (pa_cons pe_int (pa_cons pe_int pa_nil))))
      (pss_one (ps_for (passes_of rfl) rfl (pi_enum (by rfl) T.n_enumerate (pa_cons (pv 1) pa_nil)) (pg_tup rfl (pgs_cons (pg_name (i := 3) sc_check_web.nd rfl (by first | exact Or.inl rfl | exact Or.inr rfl)) (pgs_cons (pg_name (i := 4) sc_check_web.nd rfl (by first | exact Or.inl rfl | exact Or.inr rfl)) pgs_nil))) (pss_cons (ps_if (PW.pt (pw_or (pt_not (pt_val (C8.pe_c c hr (by decide) (by rfl) (pa_cons (pv 0) (pa_cons (pv 4) pa_nil))))) (pw_or1 (pt_cmpR (op_leT hr.units0) (pv 4) (pv 2) (by rfl))))) (pss_one (ps_raiseE TE (hr.mono (by decide)) rfl (takes_of rfl rfl rfl rfl) (by rfl) (pv 3))) pss_nil)
        (pss_one (ps_set (i := 2) sc_check_web.nd rfl (by first | exact Or.inl rfl | exact Or.inr rfl) (pv 4)))))))), ?_⟩
    refine ⟨_, rfl, v, .ty "list", .type (tyS d), .type "list", isListD d, rfl, .ty _, tyRp r, kList d, isListD d, rfl, ?_⟩
    cases r with
    | @lst a xs ds ha _ ra =>
      refine iteF ?_
      have hl := hlen ds rfl
      refine ⟨by decide, fun b nb => ?_⟩
      have s0 : Same H (upd H b (.tup [.int 0, .int 0])) := same_upd nb
      refine ⟨_, rfl, a, xs, rfl, sqL_of (s0 _ _ ha), ?_⟩
      refine for_enum (K := K) (a := a) (xs := xs) (fun i σ H' => ∃ (tb : Addr) (p r : Int) (v3 v4 : Option V), σ = [some (.int n), some (.ref a), some (.ref tb), v3, v4] ∧ Same H H' ∧ H' tb = some (.tup [.int p, .int r]) ∧
          webGo n (0, 0) 0 ds = webGo n (p, r) i (ds.drop i)) ⟨b, 0, 0, none, none, rfl, s0, upd_same, by rw [List.drop_zero]⟩ ?_ ?_ ?_
      · rintro i σ H' _ ⟨_, _, _, _, _, _, s1, _⟩
        exact sqL_of (s1 _ _ ha)
      · rintro i x Tt σ H' hx ⟨tb, p, r, v3, v4, rfl, s1, htb, hgo⟩ nT
        obtain ⟨dx, hd, rx⟩ := ra.getV hx
        have hil : i < ds.length := (List.getElem?_eq_some_iff.mp hd).1
        have s2 : Same H' (upd H' Tt (.tup [.int (i : Nat), x])) := same_upd nT
        have s3 := s1.trans s2
        have rx2 : Rp Tr (upd H' Tt (.tup [.int (i : Nat), x])) x dx := rx.same s3
        have edrop : ds.drop i = dx :: ds.drop (i + 1) := by
          rw [List.drop_eq_getElem_cons hil]
          congr 1
          exact (List.getElem?_eq_some_iff.mp hd).2
        rw [edrop, webGo_cons] at hgo
        refine ⟨Tt, _, rfl, sqT_of upd_same, rfl, _, _, rfl, _, _, rfl, rfl, ?_⟩
        refine ⟨_, rfl, _, rfl, n, x, dx, rfl, rx2, isXd n dx, rfl, ?_⟩
        have bad : ∀ H'', Same H H'' → (!isXd n dx || leq2 (pairD dx) (p, r)) = true → FliesE Cw "index" (V.int (i : Nat)) H'' E := fun H'' s4 hb => by
          rw [if_pos hb] at hgo
          refine e (some i) ?_ H'' s4
          show (webGo n (0, 0) 0 ds).map some = _
          rw [hgo]
          rfl
        cases c1 : isXd n dx with
        | false => exact iteT ⟨_, rfl, .inr ⟨_, rfl, by
            show (Int.natAbs (i : Int)) < _
            rw [Int.natAbs_natCast]
            omega⟩, bad _ s3 (by rw [c1]; rfl)⟩
        | true =>
          obtain ⟨t, u, w', rfl, rfl, ht⟩ := isXd_pair rx2 c1
          refine iteF ⟨_, rfl, _, rfl, t, tb, [u, w'], [p, r], rfl, rfl, sqT_of ht, sqT_of (s2 _ _ htb), leq2 (u, w') (p, r), ?_, ?_⟩
          · rw [le_pair]
            rfl
          cases c2 : leq2 (u, w') (p, r) with
          | true => exact iteT ⟨_, rfl, .inr ⟨_, rfl, by
              show (Int.natAbs (i : Int)) < _
              rw [Int.natAbs_natCast]
              omega⟩, bad _ s3 (by
                show (!isXd n _ || leq2 (u, w') (p, r)) = true
                rw [c2, Bool.or_true])⟩
          | false =>
            refine iteF ⟨_, rfl, t, u, w', _, _, rfl, s3, ht, ?_⟩
            rw [hgo, if_neg (by
              show ¬ (!isXd n _ || leq2 (u, w') (p, r)) = true
              rw [c1, c2]
              decide)]
            rfl
      · rintro σ H' ⟨_, p, r, _, _, _, s1, _, hgo⟩
        refine q ?_ H' s1
        show (webGo n (0, 0) 0 ds).map some = none
        rw [hgo, ra.length, List.drop_length]
        rfl
    | _ => exact iteT ⟨.inl rfl, e none rfl H (Same.refl H)⟩
end
end Un

set_option maxRecDepth 100000
set_option maxHeartbeats 4000000
namespace Un
open PySem PySem.Spec PyProof.Rows L2
/-! ### ints in data -/
def intsL : List PyData → Option (List Int)
  | [] => some []
  | .int i :: ds => (intsL ds).map (i :: ·)
  | _ => none
theorem intsL_map : ∀ ns : List Int, intsL (ns.map PyData.int) = some ns
  | [] => rfl
  | n :: ns => by
    rw [List.map_cons]
    unfold intsL
    rw [intsL_map ns] <;> rfl
theorem intsL_eq : ∀ {ds : List PyData} {ns : List Int}, intsL ds = some ns → ds = ns.map PyData.int
  | [], ns, h => by
    cases h
    rfl
  | d :: ds, ns, h => by
    cases d with
    | int i =>
      obtain ⟨ms, e1, rfl⟩ := Option.map_eq_some_iff.mp h
      rw [intsL_eq e1] <;> rfl
    | none => cases h
    | bool b => cases h
    | str b => cases h
    | list b => cases h
    | tuple b => cases h
    | dict b => cases h
theorem RpA.ints {Z : Addr → Prop} {G : Hp} : ∀ {xs : List V} {ns : List Int}, RpA Z G xs (ns.map PyData.int) → xs = ns.map V.int
  | _, [], .nil => rfl
  | _, n :: ns, .cons r t => by
    cases r
    rw [RpA.ints t] <;> rfl
def boolsL : List PyData → Option (List Bool)
  | [] => some []
  | .bool i :: ds => (boolsL ds).map (i :: ·)
  | _ => none
theorem boolsL_map : ∀ ns : List Bool, boolsL (ns.map PyData.bool) = some ns
  | [] => rfl
  | n :: ns => by
    rw [List.map_cons]
    unfold boolsL
    rw [boolsL_map ns] <;> rfl
theorem boolsL_eq : ∀ {ds : List PyData} {ns : List Bool}, boolsL ds = some ns → ds = ns.map PyData.bool
  | [], ns, h => by
    cases h
    rfl
  | d :: ds, ns, h => by
    cases d with
    | bool i =>
      obtain ⟨ms, e1, rfl⟩ := Option.map_eq_some_iff.mp h
      rw [boolsL_eq e1] <;> rfl
    | none => cases h
    | int b => cases h
    | str b => cases h
    | list b => cases h
    | tuple b => cases h
    | dict b => cases h
theorem RpA.bools {Z : Addr → Prop} {G : Hp} : ∀ {xs : List V} {ns : List Bool}, RpA Z G xs (ns.map PyData.bool) → xs = ns.map V.bl
  | _, [], .nil => rfl
  | _, n :: ns, .cons r t => by
    cases r
    rw [RpA.bools t] <;> rfl
/-- rows of data -/
def rowsL : List PyData → Option (List (List PyData))
  | [] => some []
  | .list xs :: ds => (rowsL ds).map (xs :: ·)
  | _ => none
theorem rowsL_eq : ∀ {ds : List PyData} {xss : List (List PyData)}, rowsL ds = some xss → ds = xss.map PyData.list
  | [], ns, h => by
    cases h
    rfl
  | d :: ds, ns, h => by
    cases d with
    | list i =>
      obtain ⟨ms, e1, rfl⟩ := Option.map_eq_some_iff.mp h
      rw [rowsL_eq e1] <;> rfl
    | none => cases h
    | int b => cases h
    | str b => cases h
    | bool b => cases h
    | tuple b => cases h
    | dict b => cases h
theorem rowsL_map : ∀ xss : List (List PyData), rowsL (xss.map PyData.list) = some xss
  | [] => rfl
  | n :: ns => by
    rw [List.map_cons]
    unfold rowsL
    rw [rowsL_map ns] <;> rfl
theorem RpA.rows {Z : Addr → Prop} {G H : Hp} (gh : Same G H) : ∀ {xs : List V} {xss : List (List PyData)}, RpA Z G xs (xss.map PyData.list) → ∃ (as : List Addr) (vss : List (List V)), xs = as.map V.ref ∧ Paired (fun c (ys : List V) => H c = some (.lst ys)) as vss ∧ RpA Z G vss.flatten xss.flatten ∧ vss.flatten.length = xss.flatten.length
  | _, [], .nil => ⟨[], [], rfl, .nil, .nil, rfl⟩
  | _, x :: xss, .cons r t => by
    cases r with
    | lst h _ ra =>
      obtain ⟨as, vss, e1, e2, e3, e4⟩ := RpA.rows gh t
      refine ⟨_ :: as, _ :: vss, by rw [e1] <;> rfl, .cons (gh _ _ h) e2, ?_, ?_⟩
      · rw [List.flatten_cons, List.flatten_cons]
        exact ra.append e3
      · rw [List.flatten_cons, List.flatten_cons, List.length_append, List.length_append, ra.length, e4]
/-! ### the operations by name -/
inductive Op2 where
  | add | sub | mul | mod | fdiv | pow | shl | shr | band | bor | bxor | eq | ne | lt | le | gt | ge | isin | notin | isN | notN | ix
def ltF : PB → PB → Option Rs
  | (.int i, _), (.int j, _) => some (sc (.bool (decide (i < j))))
  | (.tuple ds, _), (.tuple es, _) => (intsL ds).bind fun ns => (intsL es).map fun ms => sc (.bool (HT.lexLt ns ms))
  | _, _ => none
def rLtZ (K : PySem.W.Frag) : R2 := fun x y H Q => rI0 (fun i j => .bl (decide (i < j))) x y H Q ∨ rLtT K x y H Q
theorem op_ltZ {X : Cx} (hu : X.A.units < cLine) : OpR X (compareOp .Lt) (rLtZ X.K) := by
  intro pins s σ H x y v u Q I rx ry h
  rcases h with h | h
  · exact op_lt pins s σ H x y v u Q I rx ry h
  · exact op_ltT hu pins s σ H x y v u Q I rx ry h
theorem ok_lt {K : PySem.W.Frag} : Ok2 (rLtZ K) ltF := by
  intro Z G H x y p q res e hZ gh hx hy Q k
  obtain ⟨d, n⟩ := p
  obtain ⟨d', m⟩ := q
  dsimp only at hx hy
  unfold ltF at e
  split at e
  · rename_i e1 e2
    cases e1
    cases e2
    cases hx
    cases hy
    cases e
    exact .inl ⟨_, _, rfl, rfl, k.val gh rfl (.bl _)⟩
  · rename_i e1 e2
    cases e1
    cases e2
    obtain ⟨ns, en, e⟩ := Option.bind_eq_some_iff.mp e
    obtain ⟨ms, em, rfl⟩ := Option.map_eq_some_iff.mp e
    cases intsL_eq en
    cases intsL_eq em
    cases hx with
    | tup hx rx =>
    cases hy with
    | tup hy ry =>
    cases rx.ints
    cases ry.ints
    exact .inr ⟨_, _, ns, ms, rfl, rfl, sqT_of (gh _ _ hx), sqT_of (gh _ _ hy), k.val gh rfl (.bl _)⟩
  · cases e
def Op2.r (K : PySem.W.Frag) : Op2 → R2
  | .add => rAddZ K
  | .sub => rI0 fun i j => .int (i - j)
  | .mul => rMulZ
  | .mod => rI (fun _ j => 0 < j) fun i j => .int (i % j)
  | .fdiv => rI CDiv fun i j => .int (i / j)
  | .pow => rI CPowB fun i j => .int (i ^ j.toNat)
  | .shl => rI CPow fun i j => .int (i * 2 ^ j.toNat)
  | .shr => rI (fun _ j => 0 ≤ j) fun i j => .int (i / 2 ^ j.toNat)
  | .band => rI0 fun i j => .int (Builtin.bitAnd i j)
  | .bor => rI0 fun i j => .int (Builtin.bitOr i j)
  | .bxor => rI0 fun i j => .int (Builtin.bitXor i j)
  | .eq => rEqZ K
  | .ne => rNeZ K
  | .lt => rLtZ K
  | .le => rI0 fun i j => .bl (decide (i ≤ j))
  | .gt => rI0 fun i j => .bl (decide (j < i))
  | .ge => rI0 fun i j => .bl (decide (j ≤ i))
  | .isin => rInZ K
  | .notin => rNotInZ K
  | .isN => rIsNZ
  | .notN => rNotNZ
  | .ix => rIxZ K
def Op2.f : Op2 → PB → PB → Option Rs
  | .add => addF
  | .sub => intF (fun _ _ => True) fun i j => .int (i - j)
  | .mul => mulF
  | .mod => intF (fun _ j => 0 < j) fun i j => .int (i % j)
  | .fdiv => intF CDiv fun i j => .int (i / j)
  | .pow => intF CPowB fun i j => .int (i ^ j.toNat)
  | .shl => intF CPow fun i j => .int (i * 2 ^ j.toNat)
  | .shr => intF (fun _ j => 0 ≤ j) fun i j => .int (i / 2 ^ j.toNat)
  | .band => intF (fun _ _ => True) fun i j => .int (Builtin.bitAnd i j)
  | .bor => intF (fun _ _ => True) fun i j => .int (Builtin.bitOr i j)
  | .bxor => intF (fun _ _ => True) fun i j => .int (Builtin.bitXor i j)
  | .eq => eqF false
  | .ne => eqF true
  | .lt => ltF
  | .le => intF (fun _ _ => True) fun i j => .bool (decide (i ≤ j))
  | .gt => intF (fun _ _ => True) fun i j => .bool (decide (j < i))
  | .ge => intF (fun _ _ => True) fun i j => .bool (decide (j ≤ i))
  | .isin => inF false
  | .notin => inF true
  | .isN => isNF false
  | .notN => isNF true
  | .ix => ixF
theorem Op2.ok {K : PySem.W.Frag} : ∀ o : Op2, Ok2 (o.r K) o.f
  | .add => ok_add
  | .sub => ok_int0 (g := fun i j => .int (i - j)) fun _ _ => rfl
  | .mul => ok_mul
  | .mod => ok_int (C := fun _ j => 0 < j) (g := fun i j => .int (i % j)) fun _ _ => rfl
  | .fdiv => ok_int (C := CDiv) (g := fun i j => .int (i / j)) fun _ _ => rfl
  | .pow => ok_int (C := CPowB) (g := fun i j => .int (i ^ j.toNat)) fun _ _ => rfl
  | .shl => ok_int (C := CPow) (g := fun i j => .int (i * 2 ^ j.toNat)) fun _ _ => rfl
  | .shr => ok_int (C := fun _ j => 0 ≤ j) (g := fun i j => .int (i / 2 ^ j.toNat)) fun _ _ => rfl
  | .band => ok_int0 (g := fun i j => .int (Builtin.bitAnd i j)) fun _ _ => rfl
  | .bor => ok_int0 (g := fun i j => .int (Builtin.bitOr i j)) fun _ _ => rfl
  | .bxor => ok_int0 (g := fun i j => .int (Builtin.bitXor i j)) fun _ _ => rfl
  | .eq => ok_eq
  | .ne => ok_ne
  | .lt => ok_lt
  | .le => ok_int0 (g := fun i j => .bool (decide (i ≤ j))) fun _ _ => rfl
  | .gt => ok_int0 (g := fun i j => .bool (decide (j < i))) fun _ _ => rfl
  | .ge => ok_int0 (g := fun i j => .bool (decide (j ≤ i))) fun _ _ => rfl
  | .isin => ok_in
  | .notin => ok_notIn
  | .isN => ok_isN
  | .notN => ok_notN
  | .ix => ok_ix
inductive Op1 where
  | neg | inv
def Op1.r : Op1 → V → Hp → VK → Prop
  | .neg => rU fun i => .int (-i)
  | .inv => rU fun i => .int (Builtin.bitNot i)
def Op1.f : Op1 → PB → Option Rs
  | .neg, (.int i, _) => some (sc (.int (-i)))
  | .inv, (.int i, _) => some (sc (.int (Builtin.bitNot i)))
  | _, _ => none
theorem Op1.ok (o : Op1) : Ok1 o.r o.f := by
  intro Z G H x p res e hZ gh hx Q k
  obtain ⟨d, n⟩ := p
  dsimp only at hx
  cases o with
  | neg =>
    unfold Op1.f at e
    split at e
    · rename_i e1 e2
      cases e2
      cases hx
      cases e
      exact ⟨_, rfl, k.val gh rfl (.int _)⟩
    · rename_i e1 e2
      cases e1
    · cases e
  | inv =>
    unfold Op1.f at e
    split at e
    · rename_i e1 e2
      cases e1
    · rename_i e1 e2
      cases e2
      cases hx
      cases e
      exact ⟨_, rfl, k.val gh rfl (.int _)⟩
    · cases e
def insI (x : Int) : List Int → List Int
  | [] => [x]
  | y :: ys => if x ≤ y then x :: y :: ys else y :: insI x ys
def srtI : List Int → List Int
  | [] => []
  | x :: xs => insI x (srtI xs)
theorem insI_perm (x : Int) : ∀ ys : List Int, (insI x ys).Perm (x :: ys)
  | [] => List.Perm.refl _
  | y :: ys => by
    unfold insI
    split
    · exact List.Perm.refl _
    · exact ((insI_perm x ys).cons y).trans (List.Perm.swap x y ys)
theorem srtI_perm : ∀ xs : List Int, (srtI xs).Perm xs
  | [] => List.Perm.refl _
  | x :: xs => (insI_perm x (srtI xs)).trans ((srtI_perm xs).cons x)
theorem insI_srt {x : Int} : ∀ {ys : List Int}, ys.Pairwise (· ≤ ·) → (insI x ys).Pairwise (· ≤ ·)
  | [], _ => by
    unfold insI
    exact List.pairwise_singleton _ _
  | y :: ys, h => by
    obtain ⟨h1, h2⟩ := List.pairwise_cons.mp h
    unfold insI
    split
    · rename_i c
      refine List.pairwise_cons.mpr ⟨fun z hz => ?_, h⟩
      rcases List.mem_cons.mp hz with rfl | hz
      · exact c
      · exact Int.le_trans c (h1 z hz)
    · refine List.pairwise_cons.mpr ⟨fun z hz => ?_, insI_srt h2⟩
      rcases List.mem_cons.mp ((insI_perm x ys).mem_iff.mp hz) with rfl | hz
      · omega
      · exact h1 z hz
theorem srtI_srt : ∀ xs : List Int, (srtI xs).Pairwise (· ≤ ·)
  | [] => List.Pairwise.nil
  | x :: xs => insI_srt (srtI_srt xs)
theorem srtI_uniq {ns ms : List Int} (p : ns.Perm ms) (s : ns.Pairwise (· ≤ ·)) : ns = srtI ms :=
  List.Perm.eq_of_pairwise (fun a b _ _ h1 h2 => Int.le_antisymm h1 h2) s (srtI_srt ms) (p.trans (srtI_perm ms).symm)
/-! ### pairs in data -/
def prsL : List PyData → Option (List (Int × Int))
  | [] => some []
  | .tuple [.int i, .int j] :: ds => (prsL ds).map ((i, j) :: ·)
  | _ => none
theorem prsL_map : ∀ es : List (Int × Int), prsL (es.map dP) = some es
  | [] => rfl
  | e :: es => by
    rw [List.map_cons]
    show (prsL (es.map dP)).map _ = _
    rw [prsL_map es] <;> rfl
theorem prsL_eq : ∀ {ds : List PyData} {es : List (Int × Int)}, prsL ds = some es → ds = es.map dP
  | [], es, h => by
    cases h
    rfl
  | d :: ds, es, h => by
    unfold prsL at h
    split at h
    · rename_i h1
      cases h1
    · rename_i i j ds' h1
      cases h1
      obtain ⟨es', e1, rfl⟩ := Option.map_eq_some_iff.mp h
      rw [prsL_eq e1] <;> rfl
    · cases h
theorem RpA.prs {Z : Addr → Prop} {G : Hp} : ∀ {xs : List V} {es : List (Int × Int)}, RpA Z G xs (es.map dP) → ∃ ts : List Addr, xs = ts.map V.ref ∧ Prs G ts es
  | _, [], .nil => ⟨[], rfl, .nil⟩
  | _, e :: es, .cons r t => by
    obtain ⟨ts, e1, e2⟩ := RpA.prs t
    cases r with
    | @tup a ys ds h ra =>
      cases ra with
      | cons r1 ra =>
      cases ra with
      | cons r2 ra =>
      cases ra
      cases r1
      cases r2
      exact ⟨a :: ts, by rw [e1] <;> rfl, .cons h e2⟩
theorem Prs.rp {Z : Addr → Prop} {G : Hp} : ∀ {ts : List Addr} {es : List (Int × Int)}, Prs G ts es → RpA Z G (ts.map V.ref) (es.map dP)
  | _, _, .nil => .nil
  | _, _, .cons r t => .cons (.tup r (.cons (.int _) (.cons (.int _) .nil))) (Prs.rp t)
theorem ints_rp {Z : Addr → Prop} {G : Hp} : ∀ ns : List Int, RpA Z G (ns.map V.int) (ns.map PyData.int)
  | [] => .nil
  | n :: ns => .cons (.int n) (ints_rp ns)
theorem Rws.rp {Z : Addr → Prop} {G : Hp} : ∀ {as : List Addr} {xss : List (List Int)}, Rws G as xss → (∀ a ∈ as, Z a) → RpA Z G (as.map V.ref) (xss.map dL)
  | _, _, .nil, _ => .nil
  | _, _, .cons r t, h => .cons (.lst r (h _ List.mem_cons_self) (ints_rp _)) (Rws.rp t fun a m => h a (List.mem_cons_of_mem _ m))
/-! ### sorted lists of pairs -/
def leP (a b : Int × Int) : Prop := a.1 < b.1 ∨ (a.1 = b.1 ∧ a.2 ≤ b.2)
instance : DecidableRel leP := fun a b => by unfold leP; infer_instance
def insP (x : Int × Int) : List (Int × Int) → List (Int × Int)
  | [] => [x]
  | y :: ys => if leP x y then x :: y :: ys else y :: insP x ys
def srtP : List (Int × Int) → List (Int × Int)
  | [] => []
  | x :: xs => insP x (srtP xs)
theorem insP_perm (x : Int × Int) : ∀ ys : List (Int × Int), (insP x ys).Perm (x :: ys)
  | [] => List.Perm.refl _
  | y :: ys => by
    unfold insP
    split
    · exact List.Perm.refl _
    · exact ((insP_perm x ys).cons y).trans (List.Perm.swap x y ys)
theorem srtP_perm : ∀ xs : List (Int × Int), (srtP xs).Perm xs
  | [] => List.Perm.refl _
  | x :: xs => (insP_perm x (srtP xs)).trans ((srtP_perm xs).cons x)
theorem leP_total {a b : Int × Int} (h : ¬ leP a b) : leP b a := by
  unfold leP at h ⊢
  omega
theorem leP_trans {a b c : Int × Int} (h1 : leP a b) (h2 : leP b c) : leP a c := by
  unfold leP at h1 h2 ⊢
  omega
theorem leP_anti {a b : Int × Int} (h1 : leP a b) (h2 : leP b a) : a = b := by
  unfold leP at h1 h2
  refine Prod.ext ?_ ?_ <;> omega
theorem insP_srt {x : Int × Int} : ∀ {ys : List (Int × Int)}, ys.Pairwise leP → (insP x ys).Pairwise leP
  | [], _ => by
    unfold insP
    exact List.pairwise_singleton _ _
  | y :: ys, h => by
    obtain ⟨h1, h2⟩ := List.pairwise_cons.mp h
    unfold insP
    split
    · rename_i c
      refine List.pairwise_cons.mpr ⟨fun z hz => ?_, h⟩
      rcases List.mem_cons.mp hz with rfl | hz
      · exact c
      · exact leP_trans c (h1 z hz)
    · rename_i c
      refine List.pairwise_cons.mpr ⟨fun z hz => ?_, insP_srt h2⟩
      rcases List.mem_cons.mp ((insP_perm x ys).mem_iff.mp hz) with rfl | hz
      · exact leP_total c
      · exact h1 z hz
theorem srtP_srt : ∀ xs : List (Int × Int), (srtP xs).Pairwise leP
  | [] => List.Pairwise.nil
  | x :: xs => insP_srt (srtP_srt xs)
theorem srtP_uniq {ns ms : List (Int × Int)} (p : ns.Perm ms) (s : ns.Pairwise leP) : ns = srtP ms :=
  List.Perm.eq_of_pairwise (fun a b _ _ h1 h2 => leP_anti h1 h2) s (srtP_srt ms) (p.trans (srtP_perm ms).symm)
def pairV (H : Hp) : V → Int × Int := fun x => match x with
  | .ref t => match H t with
    | some (.tup [.int i, .int j]) => (i, j)
    | _ => (0, 0)
  | _ => (0, 0)
theorem pairV_eq {H : Hp} {t : Addr} {e : Int × Int} (h : H t = some (.tup [.int e.1, .int e.2])) : pairV H (.ref t) = e := by
  unfold pairV
  simp only [h]
theorem prs_perm {H : Hp} {ts : List Addr} {es : List (Int × Int)} (hP : Prs H ts es) : ∀ {ys : List V}, ys.Perm (ts.map V.ref) → ∃ us : List Addr, ys = us.map V.ref ∧ Prs H us (ys.map (pairV H)) ∧ (ys.map (pairV H)).Perm es := fun {ys} pm => by
  have hp0 : ∀ {ts : List Addr} {es : List (Int × Int)}, Prs H ts es → (ts.map V.ref).map (pairV H) = es := by
    intro ts es h
    induction h with
    | nil => rfl
    | cons r _ ih => rw [List.map_cons, List.map_cons, ih, pairV_eq r]
  have hall : ∀ y ∈ ys, ∃ t, y = V.ref t ∧ H t = some (.tup [.int (pairV H y).1, .int (pairV H y).2]) := fun y hy => by
    obtain ⟨t, ht, rfl⟩ := List.mem_map.mp (pm.mem_iff.mp hy)
    obtain ⟨i, hi, e⟩ := List.getElem_of_mem ht
    obtain ⟨p, _, hp⟩ := hP.get (by rw [List.getElem?_eq_getElem hi, e])
    exact ⟨t, rfl, by rw [pairV_eq hp]; exact hp⟩
  have hus : ∀ zs : List V, (∀ y ∈ zs, ∃ t, y = V.ref t ∧ H t = some (.tup [.int (pairV H y).1, .int (pairV H y).2])) → ∃ us : List Addr, zs = us.map V.ref ∧ Prs H us (zs.map (pairV H)) := by
    intro zs
    induction zs with
    | nil => exact fun _ => ⟨[], rfl, .nil⟩
    | cons z zs ih =>
      intro h
      obtain ⟨us, e, hp⟩ := ih fun y hy => h y (List.mem_cons_of_mem _ hy)
      obtain ⟨t, rfl, ht⟩ := h z List.mem_cons_self
      exact ⟨t :: us, by rw [e] <;> rfl, .cons ht hp⟩
  obtain ⟨us, e1, e2⟩ := hus ys hall
  refine ⟨us, e1, e2, ?_⟩
  have := pm.map (pairV H)
  rw [hp0 hP] at this
  exact this
theorem List.map_injective_ref : ∀ {a b : List Addr}, a.map V.ref = b.map V.ref → a = b
  | [], [], _ => rfl
  | x :: xs, y :: ys, h => by
    obtain ⟨h1, h2⟩ := List.cons.inj h
    cases h1
    rw [List.map_injective_ref h2]
theorem prs_fun {G H : Hp} : ∀ {us : List Addr} {es fs : List (Int × Int)}, Prs G us es → Prs H us fs → Same G H → es = fs
  | _, _, _, .nil, .nil, _ => rfl
  | _, _, _, .cons r p, .cons s q, g => by
    have h := (g _ _ r).symm.trans s
    rw [prs_fun p q g]
    injection h with h
    injection h with h
    injection h with h1 h2
    injection h2 with h2 h3
    injection h1 with h1
    injection h2 with h2
    congr 1
    exact Prod.ext h1 h2
def rSortedZ (K : PySem.W.Frag) : List V → Hp → VK → Prop := fun vs H Q => rSortedI K vs H Q ∨ rSortedPO K vs H Q
theorem cr_sortedZ0 {X : Cx} : CallR X (.builtin "sorted") (rSortedZ X.K) := by
  intro pins s σ H vs us Q I r h
  rcases h with h | h
  · exact cr_sortedI pins s σ H vs us Q I r h
  · exact cr_sortedPO pins s σ H vs us Q I r h
def sortF (ds : List PyData) : Option Rs := match intsL ds with
  | some ns => some ⟨.list ((srtI ns).map PyData.int), true, true⟩
  | none => (prsL ds).map fun es => ⟨.list ((srtP es).map dP), true, true⟩
/-! ### built-ins by name -/
inductive OpN where
  | len | min2 | max2 | int | bool | list | tuple | abs | sum | sumL | any | all | minL | maxL | sorted | repr
def reprB (d : PyData) : Bool := d.showable && !d.hasDict && decide (d.depth ≤ 60) && decide (d.shown.length ≤ sizeLine)
theorem reprB_ok {d : PyData} (h : reprB d = true) : ReprOk d := by
  unfold reprB at h
  simp only [Bool.and_eq_true, decide_eq_true_eq, Bool.not_eq_true'] at h
  exact ⟨h.1.1.1, h.1.1.2, h.1.2, h.2⟩
theorem ok_reprB {d : PyData} (h : ReprOk d) : reprB d = true := by
  unfold reprB
  simp only [Bool.and_eq_true, decide_eq_true_eq, Bool.not_eq_true']
  exact ⟨⟨⟨h.sh, h.nd⟩, h.dp⟩, h.ln⟩
def minI : List Int → Int
  | [] => 0
  | [x] => x
  | x :: xs => min x (minI xs)
def maxI : List Int → Int
  | [] => 0
  | [x] => x
  | x :: xs => max x (maxI xs)
theorem minI_is : ∀ {xs : List Int} {m : Int}, m ∈ xs → (∀ y ∈ xs, m ≤ y) → m = minI xs
  | [x], m, h, _ => List.mem_singleton.mp h
  | x :: y :: ys, m, h, hm => by
    have key : minI (y :: ys) ∈ y :: ys ∧ ∀ z ∈ y :: ys, minI (y :: ys) ≤ z := by
      clear h hm
      induction ys generalizing y with
      | nil => exact ⟨List.mem_singleton.mpr rfl, fun z hz => by rw [List.mem_singleton.mp hz]; exact Int.le_refl _⟩
      | cons z zs ih =>
        obtain ⟨a, b⟩ := ih z
        unfold minI
        by_cases c : y ≤ minI (z :: zs)
        · rw [Int.min_eq_left c]
          refine ⟨List.mem_cons_self, fun w hw => ?_⟩
          rcases List.mem_cons.mp hw with rfl | hw
          · exact Int.le_refl _
          · exact Int.le_trans c (b w hw)
        · rw [Int.min_eq_right (by omega)]
          refine ⟨List.mem_cons_of_mem _ a, fun w hw => ?_⟩
          rcases List.mem_cons.mp hw with rfl | hw
          · omega
          · exact b w hw
    unfold minI
    have h1 := hm x List.mem_cons_self
    have h2 := hm _ (List.mem_cons_of_mem _ key.1)
    rcases List.mem_cons.mp h with rfl | h
    · omega
    · have h3 := key.2 m h
      omega
theorem maxI_is : ∀ {xs : List Int} {m : Int}, m ∈ xs → (∀ y ∈ xs, y ≤ m) → m = maxI xs
  | [x], m, h, _ => List.mem_singleton.mp h
  | x :: y :: ys, m, h, hm => by
    have key : maxI (y :: ys) ∈ y :: ys ∧ ∀ z ∈ y :: ys, z ≤ maxI (y :: ys) := by
      clear h hm
      induction ys generalizing y with
      | nil => exact ⟨List.mem_singleton.mpr rfl, fun z hz => by rw [List.mem_singleton.mp hz]; exact Int.le_refl _⟩
      | cons z zs ih =>
        obtain ⟨a, b⟩ := ih z
        unfold maxI
        by_cases c : maxI (z :: zs) ≤ y
        · rw [Int.max_eq_left c]
          refine ⟨List.mem_cons_self, fun w hw => ?_⟩
          rcases List.mem_cons.mp hw with rfl | hw
          · exact Int.le_refl _
          · exact Int.le_trans (b w hw) c
        · rw [Int.max_eq_right (by omega)]
          refine ⟨List.mem_cons_of_mem _ a, fun w hw => ?_⟩
          rcases List.mem_cons.mp hw with rfl | hw
          · omega
          · exact b w hw
    unfold maxI
    have h1 := hm x List.mem_cons_self
    have h2 := hm _ (List.mem_cons_of_mem _ key.1)
    rcases List.mem_cons.mp h with rfl | h
    · omega
    · have h3 := key.2 m h
      omega
def OpN.f : OpN → List PB → Option Rs
  | .len, [(.list ds, _)] => some (sc (.int ds.length))
  | .len, [(.tuple ds, _)] => some (sc (.int ds.length))
  | .min2, [(.int i, _), (.int j, _)] => some (sc (.int (if j < i then j else i)))
  | .max2, [(.int i, _), (.int j, _)] => some (sc (.int (if j > i then j else i)))
  | .int, [(.int i, _)] => some (sc (.int i))
  | .int, [(.bool k, _)] => some (sc (.int (if k then 1 else 0)))
  | .bool, [(.int i, _)] => some (sc (.bool (i != 0)))
  | .bool, [(.bool k, _)] => some (sc (.bool k))
  | .list, [(.list ds, n)] => some ⟨.list ds, n, true⟩
  | .list, [(.tuple ds, n)] => some ⟨.list ds, n, true⟩
  | .tuple, [(.list ds, n)] => some ⟨.tuple ds, n, false⟩
  | .tuple, [(.tuple ds, n)] => some ⟨.tuple ds, n, false⟩
  | .abs, [(.int i, _)] => some (sc (.int (if i < 0 then -i else i)))
  | .sum, [(.list ds, _)] => (intsL ds).map fun ns => sc (.int ns.sum)
  | .sumL, [(.list ds, n), (.list [], m)] => (rowsL ds).bind fun xss => if xss.flatten.length ≤ 100000 then some ⟨.list xss.flatten, n && m, false⟩ else none
  | .any, [(.list ds, _)] => (boolsL ds).map fun ns => sc (.bool (ns.any id))
  | .all, [(.list ds, _)] => (boolsL ds).map fun ns => sc (.bool (ns.all id))
  | .minL, [(.list ds, _)] => (intsL ds).bind fun ns => if 0 < ns.length then some (sc (.int (minI ns))) else none
  | .maxL, [(.list ds, _)] => (intsL ds).bind fun ns => if 0 < ns.length then some (sc (.int (maxI ns))) else none
  | .sorted, [(.list ds, _)] => sortF ds
  | .repr, [(.list ds, _)] => if reprB (.list ds) then some (sc (.str (PyData.shown (.list ds)))) else none
  | .repr, [(.tuple ds, _)] => if reprB (.tuple ds) then some (sc (.str (PyData.shown (.tuple ds)))) else none
  | _, _ => none
def OpN.r (K : PySem.W.Frag) : OpN → List V → Hp → VK → Prop
  | .len => rLenK K
  | .min2 => fun xs H Q => ∃ i j, xs = [.int i, .int j] ∧ Q (.int (if j < i then j else i)) H
  | .max2 => fun xs H Q => ∃ i j, xs = [.int i, .int j] ∧ Q (.int (if j > i then j else i)) H
  | .int => fun xs H Q => (∃ i, xs = [.int i] ∧ Q (.int i) H) ∨ ∃ k, xs = [.bl k] ∧ Q (.int (if k then 1 else 0)) H
  | .bool => fun xs H Q => (∃ i, xs = [.int i] ∧ Q (.bl (i != 0)) H) ∨ ∃ k, xs = [.bl k] ∧ Q (.bl k) H
  | .list => fun xs H Q => ∃ p ys, xs = [.ref p] ∧ (SqL K H p ys ∨ SqT K H p ys) ∧ ∀ l, H l = none → Q (.ref l) (upd H l (.lst ys))
  | .tuple => fun xs H Q => ∃ p ys, xs = [.ref p] ∧ ((SqL K H p ys ∧ ∀ l, H l = none → Q (.ref l) (upd H l (.tup ys))) ∨ (SqT K H p ys ∧ Q (.ref p) H))
  | .abs => fun xs H Q => ∃ i, xs = [.int i] ∧ Q (.int (if i < 0 then -i else i)) H
  | .sum => rSum K
  | .sumL => rSumL K
  | .any => rAny K
  | .all => rAll K
  | .minL => rMin K
  | .maxL => rMax K
  | .sorted => rSortedZ K
  | .repr => rReprD K
theorem one_rp {Z : Addr → Prop} {G : Hp} {xs : List V} {p : PB} (h : Paired (fun v (p : PB) => Rp (zz Z p.2) G v p.1) xs [p]) : ∃ v, xs = [v] ∧ Rp (zz Z p.2) G v p.1 := by
  cases h with
  | cons r t =>
    cases t
    exact ⟨_, rfl, r⟩
theorem two_rp {Z : Addr → Prop} {G : Hp} {xs : List V} {p q : PB} (h : Paired (fun v (p : PB) => Rp (zz Z p.2) G v p.1) xs [p, q]) : ∃ v w, xs = [v, w] ∧ Rp (zz Z p.2) G v p.1 ∧ Rp (zz Z q.2) G w q.1 := by
  cases h with
  | cons r t =>
    cases t with
    | cons r2 t =>
      cases t
      exact ⟨_, _, rfl, r, r2⟩
theorem OpN.ok {K : PySem.W.Frag} (o : OpN) : OkN (o.r K) o.f := by
  intro Z G H xs ps res e hZ gh hx Q k
  unfold OpN.f at e
  split at e
  · obtain ⟨v, rfl, r⟩ := one_rp hx
    cases e
    cases r with
    | lst h _ ra => exact ⟨_, _, rfl, .inl (sqL_of (gh _ _ h)), by rw [ra.length]; exact k.val gh rfl (.int _)⟩
  · obtain ⟨v, rfl, r⟩ := one_rp hx
    cases e
    cases r with
    | tup h ra => exact ⟨_, _, rfl, .inr (sqT_of (gh _ _ h)), by rw [ra.length]; exact k.val gh rfl (.int _)⟩
  · obtain ⟨v, w, rfl, r1, r2⟩ := two_rp hx
    cases e
    cases r1
    cases r2
    exact ⟨_, _, rfl, k.val gh rfl (.int _)⟩
  · obtain ⟨v, w, rfl, r1, r2⟩ := two_rp hx
    cases e
    cases r1
    cases r2
    exact ⟨_, _, rfl, k.val gh rfl (.int _)⟩
  · obtain ⟨v, rfl, r⟩ := one_rp hx
    cases e
    cases r
    exact .inl ⟨_, rfl, k.val gh rfl (.int _)⟩
  · obtain ⟨v, rfl, r⟩ := one_rp hx
    cases e
    cases r
    exact .inr ⟨_, rfl, k.val gh rfl (.int _)⟩
  · obtain ⟨v, rfl, r⟩ := one_rp hx
    cases e
    cases r
    exact .inl ⟨_, rfl, k.val gh rfl (.bl _)⟩
  · obtain ⟨v, rfl, r⟩ := one_rp hx
    cases e
    cases r
    exact .inr ⟨_, rfl, k.val gh rfl (.bl _)⟩
  · obtain ⟨v, rfl, r⟩ := one_rp hx
    cases e
    cases r with
    | lst h _ ra => exact ⟨_, _, rfl, .inl (sqL_of (gh _ _ h)), fun l nl => k.lst gh rfl rfl nl ra⟩
  · obtain ⟨v, rfl, r⟩ := one_rp hx
    cases e
    cases r with
    | tup h ra => exact ⟨_, _, rfl, .inr (sqT_of (gh _ _ h)), fun l nl => k.lst gh rfl rfl nl ra⟩
  · obtain ⟨v, rfl, r⟩ := one_rp hx
    cases e
    cases r with
    | lst h _ ra => exact ⟨_, _, rfl, .inl ⟨sqL_of (gh _ _ h), fun l nl => k.tup gh rfl rfl nl ra⟩⟩
  · obtain ⟨v, rfl, r⟩ := one_rp hx
    cases e
    cases r with
    | tup h ra => exact ⟨_, _, rfl, .inr ⟨sqT_of (gh _ _ h), k.val gh rfl (.tup h ra)⟩⟩
  · obtain ⟨v, rfl, r⟩ := one_rp hx
    cases e
    cases r
    exact ⟨_, rfl, k.val gh rfl (.int _)⟩
  · obtain ⟨v, rfl, r⟩ := one_rp hx
    obtain ⟨ns, en, rfl⟩ := Option.map_eq_some_iff.mp e
    cases intsL_eq en
    cases r with
    | lst h _ ra =>
      cases ra.ints
      exact ⟨_, ns, rfl, sqL_of (gh _ _ h), k.val gh rfl (.int _)⟩
  · obtain ⟨v, w, rfl, r1, r2⟩ := two_rp hx
    obtain ⟨xss, en, e'⟩ := Option.bind_eq_some_iff.mp e
    cases rowsL_eq en
    clear e
    split at e'
    · rename_i hz
      cases e'
      cases r1 with
      | lst h1 z1 ra =>
      cases r2 with
      | lst h2 z2 rb =>
      cases rb
      obtain ⟨as, vss, rfl, e2, e3, e4⟩ := RpA.rows gh ra
      refine ⟨_, _, as, vss, rfl, sqL_of (gh _ _ h1), gh _ _ h2, e2, by rw [e4]; exact sz_le hz, fun z => ?_, fun p _ np => ?_⟩
      · subst z
        cases e2
        cases xss with
        | nil => exact k.val gh rfl (.lst h2 (zz_all2 _ z2) .nil)
        | cons a b => exact nomatch ra.length
      · refine k (.ref p) (upd H p (.lst vss.flatten)) (upd G p (.lst vss.flatten)) ((Grow.refl gh).new np) (show Rp _ _ _ _ from .lst upd_same (fun _ => hZ p np) ((e3.mono zz_all (Same.refl _)).same (same_upd (gh.free np))))
    · cases e'
  · obtain ⟨v, rfl, r⟩ := one_rp hx
    obtain ⟨ns, en, rfl⟩ := Option.map_eq_some_iff.mp e
    cases boolsL_eq en
    cases r with
    | lst h _ ra =>
      cases ra.bools
      exact ⟨_, ns, rfl, sqL_of (gh _ _ h), k.val gh rfl (.bl _)⟩
  · obtain ⟨v, rfl, r⟩ := one_rp hx
    obtain ⟨ns, en, rfl⟩ := Option.map_eq_some_iff.mp e
    cases boolsL_eq en
    cases r with
    | lst h _ ra =>
      cases ra.bools
      exact ⟨_, ns, rfl, sqL_of (gh _ _ h), k.val gh rfl (.bl _)⟩
  · obtain ⟨v, rfl, r⟩ := one_rp hx
    obtain ⟨ns, en, e'⟩ := Option.bind_eq_some_iff.mp e
    cases intsL_eq en
    clear e
    split at e'
    · rename_i hz
      cases e'
      cases r with
      | lst h _ ra =>
        cases ra.ints
        refine ⟨_, ns, rfl, sqL_of (gh _ _ h), hz, fun m h1 h2 => ?_⟩
        rw [minI_is h1 h2]
        exact k.val gh rfl (.int _)
    · cases e'
  · obtain ⟨v, rfl, r⟩ := one_rp hx
    obtain ⟨ns, en, e'⟩ := Option.bind_eq_some_iff.mp e
    cases intsL_eq en
    clear e
    split at e'
    · rename_i hz
      cases e'
      cases r with
      | lst h _ ra =>
        cases ra.ints
        refine ⟨_, ns, rfl, sqL_of (gh _ _ h), hz, fun m h1 h2 => ?_⟩
        rw [maxI_is h1 h2]
        exact k.val gh rfl (.int _)
    · cases e'
  · obtain ⟨v, rfl, r⟩ := one_rp hx
    unfold sortF at e
    split at e
    · rename_i ns en
      cases e
      cases intsL_eq en
      cases r with
      | lst h _ ra =>
        cases ra.ints
        refine .inl ⟨_, ns, rfl, sqL_of (gh _ _ h), fun ns' p h1 h2 np => ?_⟩
        rw [srtI_uniq h1 h2]
        exact k.lst gh rfl rfl np (ints_rp _)
    · obtain ⟨es, en, rfl⟩ := Option.map_eq_some_iff.mp e
      cases prsL_eq en
      cases r with
      | lst h _ ra =>
        obtain ⟨ts, rfl, hP⟩ := ra.prs
        have hPH : Prs H ts es := hP.keep fun t xs z => gh _ _ z
        have hPG := hP
        refine .inr ⟨_, ts.map V.ref, pairV H, rfl, sqL_of (gh _ _ h), fun x hx => ?_, fun ys p srt stb np => ?_⟩
        · obtain ⟨t, ht, rfl⟩ := List.mem_map.mp hx
          obtain ⟨j, hj, e1⟩ := List.getElem_of_mem ht
          obtain ⟨e2, _, he1⟩ := hPH.get (by rw [List.getElem?_eq_getElem hj, e1])
          exact ⟨t, rfl, by rw [pairV_eq he1]; exact he1⟩
        · obtain ⟨us, e1, e2, e3⟩ := prs_perm hPH stb.perm
          obtain ⟨us', f1, f2, f3⟩ := prs_perm hPG stb.perm
          have eu : us = us' := List.map_injective_ref (e1.symm.trans f1)
          subst eu
          have es2 : ys.map (pairV G) = srtP es := by
            refine srtP_uniq f3 ?_
            have eqv : ys.map (pairV G) = ys.map (pairV H) := prs_fun f2 (e2.keep fun t xs z => z) gh
            rw [eqv]
            refine List.pairwise_map.mpr (List.Pairwise.imp ?_ srt)
            intro a b hab
            have hab := SrtO.lexB_no.mp hab
            unfold leP
            omega
          rw [es2] at f2
          rw [e1]
          exact k.lst gh rfl rfl np f2.rp
  · obtain ⟨v, rfl, r⟩ := one_rp hx
    split at e
    · rename_i hz
      cases e
      have r2 := (r.same gh)
      cases r with
      | lst h _ ra => exact ⟨_, _, rfl, r2.dp (reprB_ok hz).nd, reprB_ok hz, k.val gh rfl (.str _)⟩
    · cases e
  · obtain ⟨v, rfl, r⟩ := one_rp hx
    split at e
    · rename_i hz
      cases e
      have r2 := (r.same gh)
      cases r with
      | tup h ra => exact ⟨_, _, rfl, r2.dp (reprB_ok hz).nd, reprB_ok hz, k.val gh rfl (.str _)⟩
    · cases e
  · cases e
end Un

set_option maxRecDepth 100000
set_option maxHeartbeats 4000000
namespace Un
open PySem PySem.Spec PyProof.Rows L2
/-! ### list(zip(xs, ys)) -/
theorem zip_no_len : typeLookup (.type "zip") "__len__" = pure none := by rw [typeLookup_type, builtinLookup_eq_fast]; kernel_rfl
theorem zip_no_hint : typeLookup (.type "zip") "__length_hint__" = pure none := by rw [typeLookup_type, builtinLookup_eq_fast]; kernel_rfl
/-- where the walk stands -/
structure ZAt (h : Heap) (S z TI TO i1 i2 l1 l2 : Addr) (i : Nat) : Prop where
  ti : IsPair h TI (.ref i1) (.ref i2)
  a1 : h.IsListIter i1 l1 i
  a2 : h.IsListIter i2 l2 i
  to : ∃ o, h.get? TO = some o
  st : (IsZip h z TI TO .none ∧ ∃ x y, IsPair h TO x y) ∨ ∃ T f oT, IsZipHeld h z TI TO T f ∧ h.get? T = some oT ∧ T ≠ z ∧ T ≠ i1 ∧ T ≠ i2 ∧ T ≠ S
structure ZOff (S z TI TO i1 i2 : Addr) : Prop where
  z : z ≠ S
  TI : TI ≠ S
  TO : TO ≠ S
  i1 : i1 ≠ S
  i2 : i2 ≠ S
theorem ZAt.keep {h h' : Heap} {S z TI TO i1 i2 l1 l2 : Addr} {i : Nat} (a : ZAt h S z TI TO i1 i2 l1 l2 i) (O : ZOff S z TI TO i1 i2) (k : ∀ b o, b ≠ S → h.get? b = some o → h'.get? b = some o) : ZAt h' S z TI TO i1 i2 l1 l2 i := by
  refine ⟨k _ _ O.TI a.ti, a.a1.at fun o e => k _ _ O.i1 e, a.a2.at fun o e => k _ _ O.i2 e, let ⟨o, e⟩ := a.to; ⟨o, k _ _ O.TO e⟩, ?_⟩
  rcases a.st with ⟨h1, x, y, h2⟩ | ⟨T, f, oT, h1, h2, h3, h4, h5, h6⟩
  · exact .inl ⟨k _ _ O.z h1, x, y, k _ _ O.TO h2⟩
  · exact .inr ⟨T, f, oT, k _ _ O.z h1, k _ _ h6 h2, h3, h4, h5, h6⟩
section
variable {prog : Program} {w : World} {A : Around} {E : Value → Shared → Prop} {s : Shared} {S z TI TO i1 i2 l1 l2 : Addr} {xs ys : Array Value} {i : Nat}
theorem z_next {x y : Value} {Q : Option Value → Shared → Prop} (D : ZipApart z TI TO i1 i2 l1 l2) (a : ZAt s.heap S z TI TO i1 i2 l1 l2 i) (hS : S < s.heap.objs.size) (h1 : s.heap.IsList l1 xs) (h2 : s.heap.IsList l2 ys) (hx : xs[i]? = some x) (hy : ys[i]? = some y)
    (hQ : ∀ h', ZAt h' S z TI TO i1 i2 l1 l2 (i + 1) → h'.get? s.heap.objs.size = some { cls := .type "tuple", data := .seq #[x, y] } → (∀ b o, b ∉ [z, TI, TO, i1, i2] → s.heap.get? b = some o → h'.get? b = some o) → Q (some (.ref s.heap.objs.size)) { s with heap := h' }) :
    wpAny (model prog w) A (pyNext (.ref z)) Q E s := by
  have lz : z < s.heap.objs.size := by
    rcases a.st with ⟨h, _⟩ | ⟨_, _, _, h, _⟩
    · exact Heap.lt_size h
    · exact Heap.lt_size h
  have li1 : i1 < s.heap.objs.size := by
    obtain ⟨o, e, _⟩ := a.a1
    exact Heap.lt_size e
  have li2 : i2 < s.heap.objs.size := by
    obtain ⟨o, e, _⟩ := a.a2
    exact Heap.lt_size e
  rcases a.st with ⟨hz, u, v, hTO⟩ | ⟨T, f, oT, hz, hT, n1, n2, n3, n4⟩
  · refine wpAny_pyNext_zip_item D hz a.ti hTO a.a1 a.a2 h1 h2 hx hy fun h' b1 b2 b3 b4 b5 b6 hk => ?_
    refine hQ h' ⟨hk _ _ D.TIz D.TITO D.TIi1 D.TIi2 a.ti, b3, b4, ⟨_, b2⟩, .inr ⟨_, false, _, b1, b5, Nat.ne_of_gt lz, Nat.ne_of_gt li1, Nat.ne_of_gt li2, Nat.ne_of_gt hS⟩⟩ b5 fun c o hc e => ?_
    exact hk c o (fun q => hc (by simp [q])) (fun q => hc (by simp [q])) (fun q => hc (by simp [q])) (fun q => hc (by simp [q])) e
  · refine wpAny_pyNext_zip_item_held D hz hT a.ti a.a1 a.a2 h1 h2 hx hy fun h' b1 b3 b4 b5 b6 hk => ?_
    refine hQ h' ⟨hk _ _ D.TIz D.TIi1 D.TIi2 a.ti, b3, b4, let ⟨o, e⟩ := a.to; ⟨o, hk _ _ D.TOz D.TOi1 D.TOi2 e⟩, .inr ⟨T, true, oT, b1, hk _ _ n1 n2 n3 hT, n1, n2, n3, n4⟩⟩ b5 fun c o hc e => ?_
    exact hk c o (fun q => hc (by simp [q])) (fun q => hc (by simp [q])) (fun q => hc (by simp [q])) e
theorem z_end {Q : Option Value → Shared → Prop} (hh : A.handled = none) (D : ZipApart z TI TO i1 i2 l1 l2) (a : ZAt s.heap S z TI TO i1 i2 l1 l2 i) (h1 : s.heap.IsList l1 xs) (h2 : s.heap.IsList l2 ys) (he : xs[i]? = none ∨ ys[i]? = none)
    (hQ : ∀ h', (∀ b o, b ∉ [z, TI, TO, i1, i2] → s.heap.get? b = some o → h'.get? b = some o) → Q none { s with heap := h' }) :
    wpAny (model prog w) A (pyNext (.ref z)) Q E s := by
  rcases a.st with ⟨hz, u, v, hTO⟩ | ⟨T, f, oT, hz, hT, n1, n2, n3, n4⟩
  · exact wpAny_pyNext_zip_end hh D hz a.ti hTO a.a1 a.a2 h1 h2 he fun h' hk => hQ h' fun c o hc e =>
      hk c o (fun q => hc (by simp [q])) (fun q => hc (by simp [q])) (fun q => hc (by simp [q])) (fun q => hc (by simp [q])) e
  · exact wpAny_pyNext_zip_end_held hh D hz hT a.ti a.a1 a.a2 h1 h2 he fun h' hk => hQ h' fun c o hc e =>
      hk c o (fun q => hc (by simp [q])) (fun q => hc (by simp [q])) (fun q => hc (by simp [q])) e
end
end Un
namespace Un
open PySem PySem.Spec PyProof.Rows L2
abbrev Zs (H1 H : Hp) (S : Addr) : List Addr → List (V × V) → Prop := Paired fun t (p : V × V) => H1 t = none ∧ t ≠ S ∧ H t = some (.tup [p.1, p.2])
theorem Zs.up {H1 H H' : Hp} {S : Addr} (k : ∀ t o, t ≠ S → H t = some o → H' t = some o) : ∀ {ts : List Addr} {ps : List (V × V)}, Zs H1 H S ts ps → Zs H1 H' S ts ps
  | _, _, .nil => .nil
  | _, _, .cons r t => .cons ⟨r.1, r.2.1, k _ _ r.2.1 r.2.2⟩ (Zs.up k t)
theorem Paired.snoc' {α β : Type} {R : α → β → Prop} : ∀ {as : List α} {bs : List β} {a : α} {b : β}, Paired R as bs → R a b → Paired R (as ++ [a]) (bs ++ [b])
  | _, _, _, _, .nil, h => .cons h .nil
  | _, _, _, _, .cons r t, h => .cons r (Paired.snoc' t h)
section
variable {X : Cx} {pins : List (Addr × Obj)} {σ : L2.St} {A : Around} {S z TI TO i1 i2 a b : Addr} {xs ys : List V} {H1 : Hp}
theorem loopZ {R : Result → Shared → Prop} (hA : A.in1.handled = none) (D : ZipApart z TI TO i1 i2 a b) (O : ZOff S z TI TO i1 i2) (ha : H1 a = some (.lst xs)) (hb : H1 b = some (.lst ys)) (hS1 : H1 S = none) (res : Value)
    (hR : ∀ s' H2 ts, Inv X pins σ H2 s' → Same H1 H2 → H2 S = some (.lst (ts.map V.ref)) → Zs H1 H2 S ts (xs.zip ys) → R (.ok (.ret res)) s') :
    ∀ (k i : Nat) (s : Shared) (H : Hp) (ts : List Addr), (xs.zip ys).length - i = k → i ≤ (xs.zip ys).length → Inv X pins σ H s → ZAt s.heap S z TI TO i1 i2 a b i → (∀ c ∈ [z, TI, TO, i1, i2], FpOk X pins H c) →
      H S = some (.lst (ts.map V.ref)) → Same H1 H → Zs H1 H S ts ((xs.zip ys).take i) → codeAny (model X.prog X.w) A (.builtin "list.extend.loop" ⟨[.ref S, .ref z, res], []⟩) R s := by
  intro k
  induction k with
  | zero =>
    intro i s H ts hk hi I za hf hS sm zs
    have hin : i = (xs.zip ys).length := by omega
    obtain ⟨its, n1, rv1, e1, _⟩ := I.lst (sm _ _ ha)
    obtain ⟨its2, n2, rv2, e2, _⟩ := I.lst (sm _ _ hb)
    refine codeAny_builtin F.entry_extend_loop ?_
    rw [Around.under_plainId F.plain_extend_loop _]
    show wpAny _ A.in1 (pyNext (.ref z) >>= _) _ _ s
    refine wpAny_bind (z_end hA D za ⟨_, e1, rfl, _, rfl⟩ ⟨_, e2, rfl, _, rfl⟩ ?_ fun h' hk' => ?_)
    · have l1 := rv1.length
      have l2 := rv2.length
      rw [List.length_zip] at hin
      rcases Nat.le_total xs.length ys.length with q | q
      · exact .inl (by simp; omega)
      · exact .inr (by simp; omega)
    · refine wpAny_pure (hR _ H ts (I.turnedL (t' := s.toks) (ch := [z, TI, TO, i1, i2]) hk' hf) sm hS ?_)
      rw [hin, List.take_length] at zs
      exact zs
  | succ k ih =>
    intro i s H ts hk hi I za hf hS sm zs
    have hlt : i < (xs.zip ys).length := by omega
    have hltx : i < xs.length := by rw [List.length_zip] at hlt; omega
    have hlty : i < ys.length := by rw [List.length_zip] at hlt; omega
    obtain ⟨its, n1, rv1, e1, _⟩ := I.lst (sm _ _ ha)
    obtain ⟨its2, n2, rv2, e2, z2⟩ := I.lst (sm _ _ hb)
    obtain ⟨itsS, nS, rvS, eS, zS⟩ := I.lst hS
    obtain ⟨u, hu, ru⟩ := rv1.get (List.getElem?_eq_getElem hltx)
    obtain ⟨u2, hu2, ru2⟩ := rv2.get (List.getElem?_eq_getElem hlty)
    have hSl : S < s.heap.objs.size := Heap.lt_size eS
    have hTn : H s.heap.objs.size = none := I.hok.fresh (Nat.le_refl _)
    refine codeAny_builtin F.entry_extend_loop ?_
    rw [Around.under_plainId F.plain_extend_loop _]
    show wpAny _ A.in1 (pyNext (.ref z) >>= _) _ _ s
    refine wpAny_bind (z_next D za hSl ⟨_, e1, rfl, _, rfl⟩ ⟨_, e2, rfl, _, rfl⟩ (x := u) (y := u2) (by simpa using hu) (by simpa using hu2) fun h' za' hT hk' => ?_)
    have I1 : Inv X pins σ (upd H s.heap.objs.size (.tup [xs[i], ys[i]])) { s with heap := h' } :=
      I.turnedNew (t' := s.toks) (ch := [z, TI, TO, i1, i2]) hk' hf (Nat.le_refl _) ⟨by show 2 ≤ sizeLine; decide, [u, u2], .cons ru (.cons ru2 .nil), ⟨_, hT, rfl, _, rfl⟩⟩
    have hneS : S ≠ s.heap.objs.size := Nat.ne_of_lt hSl
    have eS' : h'.get? S = some { cls := .type "list", data := .seq itsS.toArray nS } := hk' S _ (by simp [O.z.symm, O.TI.symm, O.TO.symm, O.i1.symm, O.i2.symm]) eS
    have hS' : upd H s.heap.objs.size (.tup [xs[i], ys[i]]) S = some (.lst (ts.map V.ref)) := by rw [upd_ne hneS]; exact hS
    have lts : ts.length = i := by
      have := Paired.length zs
      rw [List.length_take] at this
      omega
    have lS := rvS.length
    rw [List.length_map] at lS
    have hzl : i < sizeLine := by omega
    have I2 : Inv X pins σ (upd (upd H s.heap.objs.size (.tup [xs[i], ys[i]])) S (.lst ((ts ++ [s.heap.objs.size]).map V.ref))) { s with heap := h'.update S (Obj.mapSeq (·.push (Value.ref s.heap.objs.size))) } :=
      I1.lset (its' := itsS ++ [.ref s.heap.objs.size]) (t' := s.toks) hS' eS' (by simp) (by rw [List.map_append]; exact rvS.append (.cons rfl .nil)) (by rw [List.length_map, List.length_append, List.length_singleton]; omega)
    show wpAny _ A.in1 (updateSeq S (·.push (Value.ref s.heap.objs.size)) >>= _) _ _ _
    refine wpAny_bind ?_
    refine wpAny_updateSeq eS' rfl (wpAny_pure ⟨plainId_quiet F.plain_extend_loop _, ?_⟩) (by rw [List.size_toArray]; omega) (by show (itsS.toArray.push (Value.ref s.heap.objs.size)).size ≤ sizeLine + 1; rw [Array.size_push, List.size_toArray]; omega)
    have s1 : Same H1 (upd (upd H s.heap.objs.size (.tup [xs[i], ys[i]])) S (.lst ((ts ++ [s.heap.objs.size]).map V.ref))) := fun c o e => by
      have c1 : c ≠ S := fun q => by rw [q, hS1] at e; cases e
      have e' := sm c o e
      have c2 : c ≠ s.heap.objs.size := fun q => by rw [q, hTn] at e'; cases e'
      rw [upd_ne c1, upd_ne c2]
      exact e'
    refine ih (i + 1) _ _ (ts ++ [s.heap.objs.size]) (by omega) hlt I2 (za'.keep O fun c o hc e => (Heap.get?_update_other _ _ (Ne.symm hc)).trans e) (fun c hc => ?_) upd_same s1 ?_
    · have q := hf c hc
      have q1 : c ≠ S := by
        have e' : c = z ∨ c = TI ∨ c = TO ∨ c = i1 ∨ c = i2 := by simpa using hc
        rcases e' with r | r | r | r | r <;> subst r
        · exact O.z
        · exact O.TI
        · exact O.TO
        · exact O.i1
        · exact O.i2
      have q2 : c ≠ s.heap.objs.size := by
        have lt : c < s.heap.objs.size := by
          have e' : c = z ∨ c = TI ∨ c = TO ∨ c = i1 ∨ c = i2 := by simpa using hc
          rcases e' with r | r | r | r | r <;> subst r
          · rcases za.st with ⟨h, _⟩ | ⟨_, _, _, h, _⟩
            · exact Heap.lt_size h
            · exact Heap.lt_size h
          · exact Heap.lt_size za.ti
          · obtain ⟨o, e⟩ := za.to
            exact Heap.lt_size e
          · obtain ⟨o, e, _⟩ := za.a1
            exact Heap.lt_size e
          · obtain ⟨o, e, _⟩ := za.a2
            exact Heap.lt_size e
        exact Nat.ne_of_lt lt
      exact ⟨by rw [upd_ne q1, upd_ne q2]; exact q.1, q.2⟩
    · rw [List.take_succ, List.getElem?_eq_getElem hlt, List.getElem_zip]
      refine Paired.snoc' (zs.up fun t o ht e => ?_) ⟨?_, hneS.symm, ?_⟩
      · have c2 : t ≠ s.heap.objs.size := fun q => by rw [q, hTn] at e; cases e
        rw [upd_ne ht, upd_ne c2]
        exact e
      · cases q : H1 s.heap.objs.size with
        | none => rfl
        | some o =>
          rw [sm _ _ q] at hTn
          cases hTn
      · rw [upd_ne hneS.symm]
        exact upd_same
end
end Un
namespace Un
open PySem PySem.Spec PyProof.Rows L2
/-- list(zip(xs, ys)) -/
def tLstZip (ta : TA) : TE := fun σ H Q => ta σ H fun vs H1 => ∃ a b xs ys, vs = [.ref a, .ref b] ∧ H1 a = some (.lst xs) ∧ H1 b = some (.lst ys) ∧
  ∀ (S : Addr) (ts : List Addr) (H2 : Hp), Same H1 H2 → H1 S = none → H2 S = some (.lst (ts.map V.ref)) → Zs H1 H2 S ts (xs.zip ys) → Q (.ref S) H2
theorem pe_listZip {X : Cx} {e e2 : Expr} {ta : TA} {p pos p2 pos2 : Pos} (hc : X.calm = true) (hgl : Gl X "list") (hml : X.mg "list" = none) (hg : Gl X "zip") (hm : X.mg "zip" = none) (ha : PA X [e, e2] ta)
    (hs : starEach [e, e2] X.env = (false, eval e X.env) :: starEach [e2] X.env := by rfl) (hpl : (backTo pos (starEach [e2] X.env)).any (·.1) = false := by rfl)
    (na : starEach [.Call (.Name "zip" p) [e, e2] [] pos] X.env = (false, eval (.Call (.Name "zip" p) [e, e2] [] pos) X.env) :: starEach [] X.env := by rfl) :
    PE X (.Call (.Name "list" p2) [.Call (.Name "zip" p) [e, e2] [] pos] [] pos2) (tLstZip ta) := by
  refine ⟨fun pins s σ H Q I h => ?_⟩
  refine Call_ (ld_blt I hgl hml boot_list (PyProof.Rows.callWith_type1 (args_cons (thn (Call_ (ld_blt I hg hm PyProof.Rows.boot_zip (PyProof.Rows.callWith_type1 (thn (ha.run pos pins s σ H _ I h) fun us s1 ⟨vs, H1, I1, r1, q1⟩ => ?_) hs hpl))) fun v s1 q => args_nil q) na) na))
  obtain ⟨a, b, xs, ys, ex, hqx, hqy, q⟩ := q1
  subst ex
  cases r1 with
  | cons r rr =>
    cases rr with
    | cons r' rr =>
      cases rr
      cases r
      cases r'
      obtain ⟨its, n1, rv, e1, _⟩ := I1.lst hqx
      obtain ⟨its2, n2, rv2, e2, _⟩ := I1.lst hqy
      have la : a < s1.heap.objs.size := Heap.lt_size e1
      have lb : b < s1.heap.objs.size := Heap.lt_size e2
      refine call_zip_2 ⟨_, e1, rfl, _, rfl⟩ ⟨_, e2, rfl, _, rfl⟩ fun h' hz hTI hTO h1 h2 hsz hk => ?_
      have I2 : Inv X pins σ H1 { s1 with heap := h' } := I1.kept (t' := s1.toks) hk
      have hA : X.A.handled = none := I2.ok.hd hc
      have D := PySem.W.ktu_apart s1.heap.objs.size a b la lb
      generalize hsD : ({ s1 with heap := h' } : Shared) = s at I2
      have esz : s.heap.objs.size = s1.heap.objs.size + 5 := by rw [← hsD]; exact hsz
      have hz : IsZip s.heap (s1.heap.objs.size + 4) (s1.heap.objs.size + 2) (s1.heap.objs.size + 3) Value.none := by rw [← hsD]; exact hz
      have hTI : IsPair s.heap (s1.heap.objs.size + 2) (Value.ref s1.heap.objs.size) (Value.ref (s1.heap.objs.size + 1)) := by rw [← hsD]; exact hTI
      have hTO : IsPair s.heap (s1.heap.objs.size + 3) Value.none Value.none := by rw [← hsD]; exact hTO
      have h1 : s.heap.IsListIter s1.heap.objs.size a 0 := by rw [← hsD]; exact h1
      have h2 : s.heap.IsListIter (s1.heap.objs.size + 1) b 0 := by rw [← hsD]; exact h2
      have hf : ∀ c ∈ [s1.heap.objs.size + 4, s1.heap.objs.size + 2, s1.heap.objs.size + 3, s1.heap.objs.size, s1.heap.objs.size + 1], FpOk X pins H1 c := fun c hcm => by
        have e' : c = s1.heap.objs.size + 4 ∨ c = s1.heap.objs.size + 2 ∨ c = s1.heap.objs.size + 3 ∨ c = s1.heap.objs.size ∨ c = s1.heap.objs.size + 1 := by simpa using hcm
        have hle : s1.heap.objs.size ≤ c := by
          rcases e' with z | z | z | z | z
          · rw [z]; exact Nat.le_add_right _ _
          · rw [z]; exact Nat.le_add_right _ _
          · rw [z]; exact Nat.le_add_right _ _
          · rw [z]; exact Nat.le_refl _
          · rw [z]; exact Nat.le_add_right _ _
        exact I1.fpOk hle (I1.hok.fresh hle)
      generalize hB : s1.heap.objs.size = B at *
      clear hsD hsz hk e1 e2
      have hS1 : H1 s.heap.objs.size = none := I2.hok.fresh (Nat.le_refl _)
      have O : ZOff s.heap.objs.size (B + 4) (B + 2) (B + 3) B (B + 1) := ⟨Nat.ne_of_lt (by omega), Nat.ne_of_lt (by omega), Nat.ne_of_lt (by omega), Nat.ne_of_lt (by omega), Nat.ne_of_lt (by omega)⟩
      refine callType_codes (Q₁ := fun obj s₁ => obj = .ref s.heap.objs.size ∧ s₁ = { s with heap := s.heap.push { cls := .type "list", data := .seq #[] } }) F.called_list (F.typeCall_list_1 _) F.entry_list_init
        (code_list_new _ ⟨rfl, rfl⟩) fun obj s₁ h₁ => ?_
      obtain ⟨rfl, rfl⟩ := h₁
      have hS : (s.heap.push { cls := .type "list", data := .seq #[] }).get? s.heap.objs.size = some { cls := .type "list", data := .seq #[] } := Heap.get?_push_size _ rfl
      refine ⟨⟨_, hS, rfl⟩, F.args_list_init_2 _ _, ?_⟩
      show wpAny _ X.A.in1.in1 (do let old ← Builtin.List.listItems (.ref s.heap.objs.size); Builtin.List.listUpdate (.ref s.heap.objs.size) (fun _ => #[]); letGo old.toList.reverse; Builtin.List.listExtendWith (.ref s.heap.objs.size) (.ref (B + 4)) .none) _ _ _
      refine wpAny_bind ?_
      unfold Builtin.List.listItems
      refine wpAny_bind (wpAny_seqItems hS rfl (wpAny_pure ?_))
      show wpAny _ X.A.in1.in1 (updateSeq s.heap.objs.size (fun _ => #[]) >>= fun _ => letGo (#[] : Array Value).toList.reverse >>= fun _ => Builtin.List.listExtendWith (.ref s.heap.objs.size) (.ref (B + 4)) .none) _ _ _
      refine wpAny_bind (wpAny_updateSeq hS rfl ?_)
      have hS2 := Heap.get?_update_self (Obj.mapSeq (fun _ => (#[] : Array Value))) hS rfl
      refine wpAny_bind (wpAny_letGo ?_)
      unfold Builtin.List.listExtendWith
      have up : ∀ (h : Heap) (f : Obj → Obj), (∀ b o, s.heap.get? b = some o → h.get? b = some o) → ∀ b o, s.heap.get? b = some o → (h.update s.heap.objs.size f).get? b = some o := fun h f q b o e =>
        (Heap.get?_update_other _ _ (Ne.symm (Nat.ne_of_lt (Heap.lt_size e)))).trans (q b o e)
      have k1 : ∀ b o, s.heap.get? b = some o → (s.heap.push { cls := .type "list", data := .seq #[] }).get? b = some o := fun b o e => Heap.get?_push_of_some _ e
      have k2 := up _ (Obj.mapSeq (fun _ => (#[] : Array Value))) k1
      have hT2 : ({ s with heap := (s.heap.push { cls := .type "list", data := .seq #[] }).update s.heap.objs.size (Obj.mapSeq (fun _ => (#[] : Array Value))) } : Shared).TypeIs (.ref (B + 4)) "zip" := ⟨_, k2 _ _ hz, rfl⟩
      refine wpAny_bind (wpAny_typeOf hT2 ?_)
      have g1 : Builtin.List.listSameRef (.ref s.heap.objs.size) (.ref (B + 4)) = false := by simp [Builtin.List.listSameRef, O.z.symm]
      have g2 : (Value.type "zip" == Value.type "list") = false := by decide
      have g3 : (Value.type "zip" == Value.type "tuple") = false := by decide
      simp only [g1, g2, g3, Bool.or_false, Bool.false_eq_true, if_false]
      refine wpAny_bind (wpAny_pyIter_zip (k2 _ _ hz) ?_)
      refine wpAny_bind (wpAny_holding ?_)
      unfold Builtin.List.listLengthHint
      refine wpAny_bind (wpAny_specialOf hT2 zip_no_len ?_)
      show wpAny _ X.A.in1.in1 (specialOf (Value.ref (B + 4)) (Str.ofString "__length_hint__") >>= _) _ _ _
      refine wpAny_bind (wpAny_specialOf hT2 zip_no_hint ?_)
      refine wpAny_pure ?_
      show wpAny _ X.A.in1.in1 (rule "list.extend.makes-room" >>= fun _ => Builtin.List.listTouch (.ref s.heap.objs.size) >>= fun _ =>
        again (.builtin "list.extend.loop" ⟨[.ref s.heap.objs.size, .ref (B + 4), .none], []⟩)) _ _ _
      refine wpAny_bind (wpAny_rule ?_)
      refine wpAny_bind ?_
      show wpAny _ X.A.in1.in1 (updateSeq s.heap.objs.size (·.push .none) >>= fun _ => updateSeq s.heap.objs.size (·.pop)) _ _ _
      refine wpAny_bind (wpAny_updateSeq hS2 rfl ?_)
      have hS3 := Heap.get?_update_self (Obj.mapSeq (·.push Value.none)) hS2 rfl
      refine wpAny_updateSeq (hz := by seq_fits) hS3 rfl ?_
      have hS4 := Heap.get?_update_self (Obj.mapSeq (·.pop)) hS3 rfl
      have k4 := up _ (Obj.mapSeq (·.pop)) (up _ (Obj.mapSeq (·.push Value.none)) k2)
      refine wpAny_pure ⟨plainId_quiet F.plain_extend_loop _, ?_⟩
      have I3 := I2.laid (t' := s.toks) (a := s.heap.objs.size) (o := .lst []) k4 (Nat.le_refl _) ⟨Nat.zero_le _, [], _, .nil, hS4⟩
      refine loopZ (σ := σ) (pins := pins) (X := X) (A := X.A.in1) (H1 := H1) hA D O hqx hqy hS1 .none (fun s' H2 ts I' sm hS' zs => ⟨rfl, .ref s.heap.objs.size, H2, I', rfl, q _ ts H2 sm hS1 hS' zs⟩)
        _ 0 _ _ [] rfl (Nat.zero_le _) I3 ?_ (fun c hcm => ?_) upd_same (same_upd hS1) .nil
      · exact ⟨k4 _ _ hTI, h1.at fun o e => k4 _ _ e, h2.at fun o e => k4 _ _ e, ⟨_, k4 _ _ hTO⟩, .inl ⟨k4 _ _ hz, _, _, k4 _ _ hTO⟩⟩
      · have qf := hf c hcm
        have ne : c ≠ s.heap.objs.size := by
          have e' : c = B + 4 ∨ c = B + 2 ∨ c = B + 3 ∨ c = B ∨ c = B + 1 := by simpa using hcm
          rcases e' with r | r | r | r | r <;> rw [r]
          · exact O.z
          · exact O.TI
          · exact O.TO
          · exact O.i1
          · exact O.i2
        exact ⟨by rw [upd_ne ne]; exact qf.1, qf.2⟩
end Un

set_option maxRecDepth 100000
set_option maxHeartbeats 4000000
namespace Un
open PySem PySem.Spec PyProof.Rows L2
/-! ### texts of expressions: what the rules read, what comes out -/
inductive SK where
  | list | rng1 | rng2 | enm | zip
inductive TgX where
  | nm (i : Nat)
  | tp (is : List Nat)
abbrev FnZ := List PyData → Option PB
mutual
inductive EX where
  | var (i : Nat)
  | cst (d : PyData)
  | dic0
  | bin (o : Op2) (a b : EX)
  | un (o : Op1) (a : EX)
  | andE (a b : EX)
  | orE (a b : EX)
  | notE (a : EX)
  | ife (c : TX) (a b : EX)
  | chn (o p : Op2) (a b c : EX)
  | tup (es : EXs)
  | lst (es : EXs)
  | sl (a : EX) (lo hi : PX)
  | rev (a : EX)
  | cb (o : OpN) (es : EXs)
  | lrg1 (a : EX)
  | lrg2 (a b : EX)
  | lzip (a b : EX)
  | idx (a b : EX)
  | call (fn : FnZ) (es : EXs)
  | kcall (fn : FnZ) (ix : List Nat) (m : Nat) (es : EXs)
  | lc (k : SK) (src : EXs) (tg : TgX) (t : QX) (e : EX) (vs : List Nat)
  | lc2 (k : SK) (src : EXs) (tg : TgX) (t : QX) (k1 : SK) (src1 : EXs) (tg1 : TgX) (t1 : QX) (e : EX) (vs vs1 : List Nat)
inductive EXs where
  | nil
  | cons (e : EX) (es : EXs)
inductive PX where
  | no
  | at (e : EX)
inductive QX where
  | no
  | at (t : TX)
inductive TX where
  | val (e : EX)
  | and (a b : TX)
  | or (a b : TX)
  | not (a : TX)
end
abbrev Rho := List (Option PB)
/-- a def of this layer: fn says what it gives -/
def spZ (fn : FnZ) : Sp := fun vs H Q _ => ∃ (Z : Addr → Prop) (G : Hp) (ds : List PyData) (r : PB), fn ds = some r ∧ (∀ a, H a = none → Z a) ∧ Same G H ∧ RpA (fun _ => True) G vs ds ∧
  ∀ v H' G', Grow G H G' H' → Rp (zz Z r.2) G' v r.1 → Q v H'
def permL {α : Type} (ix : List Nat) (zs : List α) : List α := ix.filterMap fun i => zs[i]?
def tgG (K : PySem.W.Frag) : TgX → TG
  | .nm i => gName i
  | .tp is => gTup K is.length (is.foldr (fun i g => gCons (gName i) g) gNil)
def tiS (K : PySem.W.Frag) : SK → TA → TI
  | .list, ta => fun σ H R => ta σ H fun vs H1 => ∃ a, vs = [.ref a] ∧ (((∃ xs, SqL K H1 a xs) ∧ R (Itl K a) H1) ∨ ((∃ xs, SqT K H1 a xs) ∧ R (Itt K a) H1))
  | .rng1, ta => iRng1 ta
  | .rng2, ta => iRng2 ta
  | .enm, ta => iEnum K ta
  | .zip, ta => iZip K ta
section
variable (K : PySem.W.Frag)
mutual
def te : EX → TE
  | .var i => tVar i
  | .cst d => tC (scV d)
  | .dic0 => tDNewK
  | .bin o a b => tOp (o.r K) (te a) (te b)
  | .un o a => tUn o.r (te a)
  | .andE a b => tAndV (te a) (te b)
  | .orE a b => tOrV (te a) (te b)
  | .notE a => tNotV (te a)
  | .ife c a b => tIf (tt c) (te a) (te b)
  | .chn o p a b c => tChain (o.r K) (p.r K) (te a) (te b) (te c)
  | .tup es => tTup (tas es)
  | .lst es => tLst (tas es)
  | .sl a lo hi => tSl (rSlL K) (te a) (tpo lo) (tpo hi)
  | .rev a => tRevL K (te a)
  | .cb o es => tCB (o.r K) (tas es)
  | .lrg1 a => tLstRg (tRg1 (te a))
  | .lrg2 a b => tLstRg (tRg2 (te a) (te b))
  | .lzip a b => tLstZip (tCons (te a) (tCons (te b) tNil))
  | .idx a b => tBM K "list" (rIndexD K) (te a) (tCons (te b) tNil)
  | .call fn es => tCall (spZ fn) [] E0 (tas es)
  | .kcall fn ix m es => tCallK0 m (spZ fn) (fun _ zs => permL ix zs) (tas es)
  | .lc k src tg t e vs => tLc (tiS K k (tas src)) (tgG K tg) (tq t) (te e) vs
  | .lc2 k src tg t k1 src1 tg1 t1 e vs vs1 => tLc2 (tiS K k (tas src)) (tgG K tg) (tq t) (tiS K k1 (tas src1)) (tgG K tg1) (tq t1) (te e) vs vs1
def tas : EXs → TA
  | .nil => tNil
  | .cons e es => tCons (te e) (tas es)
def tpo : PX → TO
  | .no => tNoPart
  | .at e => tPart (te e)
def tq : QX → TT
  | .no => tYes
  | .at t => tt t
def tt : TX → TT
  | .val e => tB (te e)
  | .and a b => tAnd (tt a) (tt b)
  | .or a b => tOr (tt a) (tt b)
  | .not a => tNot (tt a)
end
end
/-! ### what comes out -/
def getR (ρ : Rho) (i : Nat) : Option PB := match ρ[i]? with
  | some (some p) => some p
  | _ => none
def wipeR (ρ : Rho) : List Nat → Rho
  | [] => ρ
  | v :: vs => (wipeR ρ vs).set v none
def bindTs : List Nat → List PyData → Bool → Rho → Option Rho
  | [], [], _, ρ => some ρ
  | i :: is, d :: ds, n, ρ => bindTs is ds n (ρ.set i (some (d, fl n d)))
  | _, _, _, _ => none
def bindT : TgX → PB → Rho → Option Rho
  | .nm i, p, ρ => some (ρ.set i (some p))
  | .tp is, (.tuple ds, n), ρ => bindTs is ds n ρ
  | _, _, _ => none
def enmL (n : Bool) : Nat → List PyData → List PB
  | _, [] => []
  | i, d :: ds => (.tuple [.int (i : Nat), d], fl n d) :: enmL n (i + 1) ds
def rngL (lo : Int) (n : Nat) : List PB := (List.range n).map fun i => (.int (lo + (i : Nat)), true)
def zipL (n : Bool) : List PyData → List PyData → List PB
  | d :: ds, e :: es => (.tuple [d, e], fl n (.tuple [d, e])) :: zipL n ds es
  | _, _ => []
def lzF : PB → PB → Option Rs
  | (.list ds, n), (.list es, m) => some ⟨.list ((zipL (n && m) ds es).map (·.1)), (n && m) || (nolA ds && nolA es), true⟩
  | _, _ => none
def idxF : PB → PB → Option Rs
  | (.list ds, _), (d, _) => if SeqAt.shaped d && SeqAt.shaped (.list ds) then (ds.findIdx? fun z => PyData.eqv z d).map fun (j : Nat) => sc (.int (j : Int)) else none
  | _, _ => none
def srcF : SK → List PB → Option (List PB)
  | .list, [(.list ds, n)] => some (ds.map fun d => (d, fl n d))
  | .list, [(.tuple ds, n)] => some (ds.map fun d => (d, fl n d))
  | .rng1, [(.int j, _)] => if -(2 ^ 62) ≤ j ∧ j < 2 ^ 62 then some (rngL 0 j.toNat) else none
  | .rng2, [(.int i, _), (.int j, _)] => if -(2 ^ 62) ≤ i ∧ i < 2 ^ 62 ∧ -(2 ^ 62) ≤ j ∧ j < 2 ^ 62 then some (rngL i (j - i).toNat) else none
  | .enm, [(.list ds, n)] => some (enmL n 0 ds)
  | .zip, [(.list ds, n), (.list es, m)] => some (zipL (n && m) ds es)
  | _, _ => none
/-- the turns of a comprehension -/
def lcGo (tg : TgX) (t : Rho → Option Bool) (e : Rho → Option Rs) (ρ0 : Rho) : List PB → Option (List PB)
  | [] => some []
  | x :: xs => (bindT tg x ρ0).bind fun ρ => (t ρ).bind fun b => if b then (e ρ).bind fun r => (lcGo tg t e ρ0 xs).map fun ys => r.pb :: ys else lcGo tg t e ρ0 xs
/-- .. of one with two clauses -/
def lc2Go (tg : TgX) (t : Rho → Option Bool) (s1 : Rho → Option (List PB)) (tg1 : TgX) (t1 : Rho → Option Bool) (e : Rho → Option Rs) (vs1 : List Nat) (ρ0 : Rho) : List PB → Option (List PB)
  | [] => some []
  | x :: xs => (bindT tg x ρ0).bind fun ρ => (t ρ).bind fun b => if b then (s1 ρ).bind fun items => (lcGo tg1 t1 e (wipeR ρ vs1) items).bind fun ys => (lc2Go tg t s1 tg1 t1 e vs1 ρ0 xs).map fun zs => ys ++ zs else lc2Go tg t s1 tg1 t1 e vs1 ρ0 xs
def tgIn : TgX → List Nat → Bool
  | .nm i, vs => vs.contains i
  | .tp is, vs => is.all fun i => vs.contains i
def rgB (a b : Int) : Bool := decide (-(2 ^ 62) ≤ a ∧ a < 2 ^ 62 ∧ -(2 ^ 62) ≤ b ∧ b < 2 ^ 62 ∧ (b - a).toNat ≤ 2 ^ 16)
def rngD (a b : Int) : List PyData := (List.range (b - a).toNat).map fun i => .int (a + (i : Nat))
mutual
def ev : EX → Rho → Option Rs
  | .var i, ρ => (getR ρ i).map fun p => ⟨p.1, p.2, false⟩
  | .cst d, _ => if isSc d then some (sc d) else none
  | .dic0, _ => some ⟨.dict [], true, false⟩
  | .bin o a b, ρ => (ev a ρ).bind fun p => (ev b ρ).bind fun q => o.f p.pb q.pb
  | .un o a, ρ => (ev a ρ).bind fun p => o.f p.pb
  | .andE a b, ρ => (ev a ρ).bind fun p => match p.d with
    | .bool true => ev b ρ
    | .bool false => some (sc (.bool false))
    | _ => none
  | .orE a b, ρ => (ev a ρ).bind fun p => match p.d with
    | .bool true => some (sc (.bool true))
    | .bool false => ev b ρ
    | _ => none
  | .notE a, ρ => (ev a ρ).bind fun p => match p.d with
    | .bool c => some (sc (.bool (!c)))
    | _ => none
  | .ife c a b, ρ => (evT c ρ).bind fun k => if k then ev a ρ else ev b ρ
  | .chn o p a b c, ρ => (ev a ρ).bind fun x => (ev b ρ).bind fun y => (o.f x.pb y.pb).bind fun z => match z.d with
    | .bool true => (ev c ρ).bind fun w => p.f y.pb w.pb
    | .bool false => some (sc (.bool false))
    | _ => none
  | .tup es, ρ => (evs es ρ).bind fun ps => if ps.length ≤ 100000 then some ⟨.tuple (ps.map (·.1)), ps.all (·.2), false⟩ else none
  | .lst es, ρ => (evs es ρ).bind fun ps => if ps.length ≤ 100000 then some ⟨.list (ps.map (·.1)), ps.all (·.2), true⟩ else none
  | .sl a lo hi, ρ => (ev a ρ).bind fun p => (evP lo ρ).bind fun l => (evP hi ρ).bind fun h => match p.pb with
    | (.list ds, n) => some ⟨.list ((ds.drop (HT.sIx ds.length 0 l)).take (HT.sIx ds.length ds.length h - HT.sIx ds.length 0 l)), n, true⟩
    | _ => none
  | .rev a, ρ => (ev a ρ).bind fun p => match p.pb with
    | (.list ds, n) => some ⟨.list ds.reverse, n, true⟩
    | _ => none
  | .cb o es, ρ => (evs es ρ).bind fun ps => o.f ps
  | .lrg1 a, ρ => (ev a ρ).bind fun p => match p.d with
    | .int n => if rgB 0 n then some ⟨.list (rngD 0 n), true, true⟩ else none
    | _ => none
  | .lrg2 a b, ρ => (ev a ρ).bind fun p => (ev b ρ).bind fun q => match p.d, q.d with
    | .int m, .int n => if rgB m n then some ⟨.list (rngD m n), true, true⟩ else none
    | _, _ => none
  | .lzip a b, ρ => (ev a ρ).bind fun p => (ev b ρ).bind fun q => lzF p.pb q.pb
  | .idx a b, ρ => (ev a ρ).bind fun p => (ev b ρ).bind fun q => idxF p.pb q.pb
  | .call fn es, ρ => (evs es ρ).bind fun ps => (fn (ps.map (·.1))).map fun r => ⟨r.1, r.2, false⟩
  | .kcall fn ix m es, ρ => (evs es ρ).bind fun ps => if ps.length = m then (fn (permL ix (ps.map (·.1)))).map fun r => ⟨r.1, r.2, false⟩ else none
  | .lc k src tg t e vs, ρ => (evs src ρ).bind fun ps => (srcF k ps).bind fun items => (lcGo tg (fun ρ' => evQ t ρ') (fun ρ' => ev e ρ') (wipeR ρ vs) items).bind fun ys =>
      if ys.length ≤ 100000 ∧ tgIn tg vs = true then some ⟨.list (ys.map (·.1)), ys.all (·.2), true⟩ else none
  | .lc2 k src tg t k1 src1 tg1 t1 e vs vs1, ρ => (evs src ρ).bind fun ps => (srcF k ps).bind fun items => (lc2Go tg (fun ρ' => evQ t ρ') (fun ρ' => (evs src1 ρ').bind fun qs => srcF k1 qs) tg1 (fun ρ' => evQ t1 ρ') (fun ρ' => ev e ρ') vs1 (wipeR ρ vs) items).bind fun ys =>
      if ys.length ≤ 100000 ∧ tgIn tg vs = true ∧ tgIn tg1 vs1 = true then some ⟨.list (ys.map (·.1)), ys.all (·.2), true⟩ else none
def evs : EXs → Rho → Option (List PB)
  | .nil, _ => some []
  | .cons e es, ρ => (ev e ρ).bind fun p => (evs es ρ).map fun ps => p.pb :: ps
def evP : PX → Rho → Option (Option Int)
  | .no, _ => some none
  | .at e, ρ => (ev e ρ).bind fun p => match p.d with
    | .int i => some (some i)
    | _ => none
def evQ : QX → Rho → Option Bool
  | .no, _ => some true
  | .at t, ρ => evT t ρ
def evT : TX → Rho → Option Bool
  | .val e, ρ => (ev e ρ).bind fun p => match p.d with
    | .bool b => some b
    | _ => none
  | .and a b, ρ => (evT a ρ).bind fun c => if c then evT b ρ else some false
  | .or a b, ρ => (evT a ρ).bind fun c => if c then some true else evT b ρ
  | .not a, ρ => (evT a ρ).map fun c => !c
end
end Un

set_option maxRecDepth 100000
set_option maxHeartbeats 4000000
namespace Un
open PySem PySem.Spec PyProof.Rows L2
/-! ### what is walked -/
section
variable {X : Cx} {tg : Expr}
theorem pi_any {l : Expr} {tl : TE} (hl : PE X l tl) : PI X tg l (tiS X.K .list (tCons tl tNil)) := by
  refine ⟨fun pins s σ H R I h => ?_⟩
  refine thn (hl.run pins s σ H _ I h) fun v s1 ⟨x, H1, I1, r1, q1⟩ => ?_
  obtain ⟨a, e, q1⟩ := q1
  cases e
  cases r1
  have fp : ∀ b ∈ [s1.heap.objs.size], FpOk X pins H1 b := fun b hb => by
    have e : b = s1.heap.objs.size := by simpa using hb
    subst e
    exact I1.fpOk (Nat.le_refl _) (I1.hok.fresh (Nat.le_refl _))
  rcases q1 with ⟨⟨xs, hq⟩, q⟩ | ⟨⟨xs, hq⟩, q⟩
  · obtain ⟨its, rv, p, hz⟩ := I1.list hq
    refine wpAny_pyIter_list p.isList ?_
    exact ⟨s1.heap.objs.size, [s1.heap.objs.size], _, _, H1, rfl, I1.kept (t' := s1.toks) fun b o e => Heap.get?_push_of_some _ e, turn_list a _, ⟨_, Heap.get?_push_size _ rfl, rfl, rfl⟩, fp, q⟩
  · obtain ⟨its, rv, p, hz⟩ := I1.tuple hq
    refine wpAny_pyIter_tuple (show s1.heap.IsTuple a its.toArray from p) ?_
    exact ⟨s1.heap.objs.size, [s1.heap.objs.size], _, _, H1, rfl, I1.kept (t' := s1.toks) fun b o e => Heap.get?_push_of_some _ e, turn_tuple a _, ⟨_, Heap.get?_push_size _ rfl, rfl, rfl⟩, fp, q⟩
end
/-- J yields the items, whatever else grows -/
def Feeds (Z : Addr → Prop) (J : It) (G1 : Hp) (items : List PB) : Prop := ∀ (G H : Hp) (i : Nat), Same G1 G → Same G H →
  (∀ p, items[i]? = some p → J.go i H ∧ ∀ x H', J.yld i H x H' → ∃ G', Grow G H G' H' ∧ Rp (zz Z p.2) G' x p.1) ∧ (items.length ≤ i → J.stop i H)
abbrev RpBs (Z : Addr → Prop) (G : Hp) : List V → List PB → Prop := Paired (fun v (p : PB) => Rp (zz Z p.2) G v p.1)
theorem enmL_len (n : Bool) : ∀ (ds : List PyData) (i : Nat), (enmL n i ds).length = ds.length
  | [], _ => rfl
  | d :: ds, i => by
    unfold enmL
    rw [List.length_cons, List.length_cons, enmL_len n ds]
theorem enmL_get (n : Bool) : ∀ (ds : List PyData) (i j : Nat), (enmL n i ds)[j]? = ds[j]?.map fun d => ((.tuple [.int ((i + j : Nat) : Int), d], fl n d) : PB)
  | [], _, _ => by simp [enmL]
  | d :: ds, i, 0 => by simp [enmL]
  | d :: ds, i, j + 1 => by
    unfold enmL
    rw [List.getElem?_cons_succ, List.getElem?_cons_succ, enmL_get n ds (i + 1) j]
    rw [show i + 1 + j = i + (j + 1) by omega]
theorem zipL_get (n : Bool) : ∀ (ds es : List PyData) (j : Nat) (p : PB), (zipL n ds es)[j]? = some p → ∃ d e, ds[j]? = some d ∧ es[j]? = some e ∧ p = (.tuple [d, e], fl n (.tuple [d, e]))
  | [], _, _, _, h => by simp [zipL] at h
  | _ :: _, [], _, _, h => by simp [zipL] at h
  | d :: ds, e :: es, 0, p, h => by
    simp [zipL] at h
    exact ⟨d, e, rfl, rfl, h.symm⟩
  | d :: ds, e :: es, j + 1, p, h => by
    unfold zipL at h
    obtain ⟨d', e', h1, h2, h3⟩ := zipL_get n ds es j p (by simpa using h)
    exact ⟨d', e', by simpa using h1, by simpa using h2, h3⟩
theorem zipL_len (n : Bool) : ∀ (ds es : List PyData), (zipL n ds es).length = min ds.length es.length
  | [], es => by simp [zipL]
  | _ :: _, [] => by simp [zipL]
  | d :: ds, e :: es => by
    unfold zipL
    rw [List.length_cons, List.length_cons, List.length_cons, zipL_len n ds es]
    omega
section
variable {Z : Addr → Prop} {G H : Hp} {K : PySem.W.Frag}
theorem feeds_list {a : Addr} {xs : List V} {ds : List PyData} {n : Bool} (h : G a = some (.lst xs)) (r : RpA (zz Z n) G xs ds) : Feeds Z (Itl K a) G (ds.map fun d => (d, fl n d)) := by
  intro G2 H2 i s1 s2
  have hq : SqL K H2 a xs := sqL_of (s2 _ _ (s1 _ _ h))
  refine ⟨fun p hp => ?_, fun hi => ⟨xs, hq, by rw [List.length_map, ← r.length] at hi; exact hi⟩⟩
  rw [List.getElem?_map] at hp
  obtain ⟨d, hd, rfl⟩ := Option.map_eq_some_iff.mp hp
  obtain ⟨v, hv, rv⟩ := r.get hd
  refine ⟨⟨xs, v, hq, hv⟩, fun x H' y => ?_⟩
  obtain ⟨rfl, y⟩ := y
  have e := y xs hq
  rw [hv] at e
  cases e
  exact ⟨G2, Grow.refl s2, (rv.same s1).fl⟩
theorem feeds_tup {a : Addr} {xs : List V} {ds : List PyData} {n : Bool} (h : G a = some (.tup xs)) (r : RpA (zz Z n) G xs ds) : Feeds Z (Itt K a) G (ds.map fun d => (d, fl n d)) := by
  intro G2 H2 i s1 s2
  have hq : SqT K H2 a xs := sqT_of (s2 _ _ (s1 _ _ h))
  refine ⟨fun p hp => ?_, fun hi => ⟨xs, hq, by rw [List.length_map, ← r.length] at hi; exact hi⟩⟩
  rw [List.getElem?_map] at hp
  obtain ⟨d, hd, rfl⟩ := Option.map_eq_some_iff.mp hp
  obtain ⟨v, hv, rv⟩ := r.get hd
  refine ⟨⟨xs, v, hq, hv⟩, fun x H' y => ?_⟩
  obtain ⟨rfl, y⟩ := y
  have e := y xs hq
  rw [hv] at e
  cases e
  exact ⟨G2, Grow.refl s2, (rv.same s1).fl⟩
theorem feeds_rng (lo : Int) (n : Nat) : Feeds Z (Itr lo n) G (rngL lo n) := by
  intro G2 H2 i s1 s2
  unfold rngL
  refine ⟨fun p hp => ?_, fun hi => by rw [List.length_map, List.length_range] at hi; exact hi⟩
  have hi : i < n := by
    have z := (List.getElem?_eq_some_iff.mp hp).1
    rw [List.length_map, List.length_range] at z
    exact z
  rw [List.getElem?_map, List.getElem?_range hi] at hp
  cases hp
  refine ⟨hi, fun x H' y => ?_⟩
  obtain ⟨rfl, rfl⟩ := y
  exact ⟨G2, Grow.refl s2, .int _⟩
theorem feeds_enm {a : Addr} {xs : List V} {ds : List PyData} {n : Bool} (h : G a = some (.lst xs)) (r : RpA (zz Z n) G xs ds) : Feeds Z (Ite K a) G (enmL n 0 ds) := by
  intro G2 H2 i s1 s2
  have hq : SqL K H2 a xs := sqL_of (s2 _ _ (s1 _ _ h))
  refine ⟨fun p hp => ?_, fun hi => ⟨xs, hq, by rw [enmL_len, ← r.length] at hi; exact hi⟩⟩
  rw [enmL_get] at hp
  obtain ⟨d, hd, rfl⟩ := Option.map_eq_some_iff.mp hp
  obtain ⟨v, hv, rv⟩ := r.get hd
  refine ⟨⟨xs, v, hq, hv⟩, fun x H' y => ?_⟩
  obtain ⟨T, y, rfl, nT, rfl, f⟩ := y
  have e := f xs hq
  rw [hv] at e
  cases e
  have gn : G2 T = none := s2.free nT
  refine ⟨_, (Grow.refl s2).new nT, .tup upd_same (.cons ?_ (.cons ((rv.same (s1.trans (same_upd gn))).fl) .nil))⟩
  rw [Nat.zero_add]
  exact .int _
theorem feeds_zip {a b : Addr} {xs ys : List V} {ds es : List PyData} {n m : Bool} (h : G a = some (.lst xs)) (r : RpA (zz Z n) G xs ds) (h2 : G b = some (.lst ys)) (r2 : RpA (zz Z m) G ys es) : Feeds Z (Itz K a b) G (zipL (n && m) ds es) := by
  intro G2 H2 i s1 s2
  have hq : SqL K H2 a xs := sqL_of (s2 _ _ (s1 _ _ h))
  have hq2 : SqL K H2 b ys := sqL_of (s2 _ _ (s1 _ _ h2))
  refine ⟨fun p hp => ?_, fun hi => ⟨xs, ys, hq, hq2, by rw [zipL_len, ← r.length, ← r2.length] at hi; omega⟩⟩
  obtain ⟨d, e, hd, he, rfl⟩ := zipL_get _ _ _ _ _ hp
  obtain ⟨v, hv, rv⟩ := r.get hd
  obtain ⟨u, hu, ru⟩ := r2.get he
  refine ⟨⟨xs, ys, v, u, hq, hq2, hv, hu⟩, fun x H' y => ?_⟩
  obtain ⟨T, y1, y2, rfl, nT, rfl, f1, f2⟩ := y
  have e1 := f1 xs hq
  have e2 := f2 ys hq2
  rw [hv] at e1
  rw [hu] at e2
  cases e1
  cases e2
  have gn : G2 T = none := s2.free nT
  exact ⟨_, (Grow.refl s2).new nT, Rp.fl (.tup upd_same (.cons ((rv.mono zz_all (Same.refl _)).same (s1.trans (same_upd gn))) (.cons ((ru.mono zz_all2 (Same.refl _)).same (s1.trans (same_upd gn))) .nil)))⟩
theorem src_ok {k : SK} {ta : TA} {σ : L2.St} {R : It → Hp → Prop} {ps items : List PB} (gh : Same G H) (hta : ∀ Q : List V → Hp → Prop, (∀ vs H1 G1, Grow G H G1 H1 → RpBs Z G1 vs ps → Q vs H1) → ta σ H Q) (e : srcF k ps = some items)
    (hR : ∀ J G1 H1, Grow G H G1 H1 → Feeds Z J G1 items → R J H1) : tiS K k ta σ H R := by
  unfold srcF at e
  split at e
  · cases e
    refine hta _ fun vs H1 G1 g r => ?_
    obtain ⟨v, rfl, r0⟩ := one_rp r
    cases r0 with
    | lst h _ ra => exact ⟨_, rfl, .inl ⟨⟨_, sqL_of (g.gh _ _ h)⟩, hR _ G1 H1 g (feeds_list h ra)⟩⟩
  · cases e
    refine hta _ fun vs H1 G1 g r => ?_
    obtain ⟨v, rfl, r0⟩ := one_rp r
    cases r0 with
    | tup h ra => exact ⟨_, rfl, .inr ⟨⟨_, sqT_of (g.gh _ _ h)⟩, hR _ G1 H1 g (feeds_tup h ra)⟩⟩
  · split at e
    · rename_i hb
      cases e
      refine hta _ fun vs H1 G1 g r => ?_
      obtain ⟨v, rfl, r0⟩ := one_rp r
      cases r0
      exact ⟨_, rfl, hb.1, hb.2, hR _ G1 H1 g (feeds_rng 0 _)⟩
    · cases e
  · split at e
    · rename_i hb
      cases e
      refine hta _ fun vs H1 G1 g r => ?_
      obtain ⟨v, w, rfl, r1, r2⟩ := two_rp r
      cases r1
      cases r2
      exact ⟨_, _, rfl, hb, hR _ G1 H1 g (feeds_rng _ _)⟩
    · cases e
  · cases e
    refine hta _ fun vs H1 G1 g r => ?_
    obtain ⟨v, rfl, r0⟩ := one_rp r
    cases r0 with
    | lst h _ ra => exact ⟨_, _, rfl, sqL_of (g.gh _ _ h), hR _ G1 H1 g (feeds_enm h ra)⟩
  · cases e
    refine hta _ fun vs H1 G1 g r => ?_
    obtain ⟨v, w, rfl, r1, r2⟩ := two_rp r
    cases r1 with
    | lst h1 _ ra =>
    cases r2 with
    | lst h2 _ rb => exact ⟨_, _, _, _, rfl, sqL_of (g.gh _ _ h1), sqL_of (g.gh _ _ h2), hR _ G1 H1 g (feeds_zip h1 ra h2 rb)⟩
  · cases e
/-! ### the names' values -/
structure RepE (Z : Addr → Prop) (G : Hp) (σ : L2.St) (ρ : Rho) : Prop where
  len : σ.length = ρ.length
  at_ : ∀ (i : Nat) (p : PB), ρ[i]? = some (some p) → ∃ v, σ[i]? = some (some v) ∧ Rp (zz Z p.2) G v p.1
theorem RepE.same {G' : Hp} {σ : L2.St} {ρ : Rho} (s : Same G G') (h : RepE Z G σ ρ) : RepE Z G' σ ρ := ⟨h.len, fun i p e => by
  obtain ⟨v, h1, h2⟩ := h.at_ i p e
  exact ⟨v, h1, h2.same s⟩⟩
theorem RepE.set {σ : L2.St} {ρ : Rho} (h : RepE Z G σ ρ) {i : Nat} {v : V} {p : PB} (r : Rp (zz Z p.2) G v p.1) : RepE Z G (σ.set i (some v)) (ρ.set i (some p)) := by
  refine ⟨by rw [List.length_set, List.length_set]; exact h.len, fun j q e => ?_⟩
  rw [List.getElem?_set] at e ⊢
  by_cases c : i = j
  · subst c
    rw [if_pos rfl] at e ⊢
    rw [h.len]
    split at e
    · rename_i hi
      rw [if_pos hi]
      cases e
      exact ⟨v, rfl, r⟩
    · cases e
  · rw [if_neg c] at e ⊢
    exact h.at_ j q e
theorem wipeR_len (ρ : Rho) : ∀ vs, (wipeR ρ vs).length = ρ.length
  | [] => rfl
  | v :: vs => by
    unfold wipeR
    rw [List.length_set, wipeR_len ρ vs]
theorem wipeR_some {ρ : Rho} {i : Nat} {p : PB} : ∀ {vs : List Nat}, (wipeR ρ vs)[i]? = some (some p) → ρ[i]? = some (some p) ∧ i ∉ vs
  | [], h => ⟨h, List.not_mem_nil⟩
  | v :: vs, h => by
    unfold wipeR at h
    rw [List.getElem?_set] at h
    by_cases c : v = i
    · rw [if_pos c] at h
      split at h <;> cases h
    · rw [if_neg c] at h
      obtain ⟨h1, h2⟩ := wipeR_some h
      exact ⟨h1, fun m => by
        rcases List.mem_cons.mp m with m | m
        · exact c m.symm
        · exact h2 m⟩
theorem RepE.wipe {σ : L2.St} {ρ : Rho} (h : RepE Z G σ ρ) (vs : List Nat) : RepE Z G (wipe σ vs) (wipeR ρ vs) := by
  refine ⟨by rw [wipe_length, wipeR_len]; exact h.len, fun i p e => ?_⟩
  obtain ⟨h1, h2⟩ := wipeR_some e
  obtain ⟨v, h3, h4⟩ := h.at_ i p h1
  exact ⟨v, by rw [wipe_out h2]; exact h3, h4⟩
theorem wipe_get (σ : L2.St) (i : Nat) : ∀ vs : List Nat, (wipe σ vs)[i]? = if i ∈ vs ∧ i < σ.length then some none else σ[i]?
  | [] => by simp [L2.wipe]
  | v :: vs => by
    unfold L2.wipe
    rw [List.getElem?_set, wipe_length, wipe_get σ i vs]
    by_cases c : v = i
    · subst c
      rw [if_pos rfl]
      by_cases hl : v < σ.length
      · rw [if_pos hl, if_pos ⟨List.mem_cons_self, hl⟩]
      · rw [if_neg hl, if_neg fun z => hl z.2, List.getElem?_eq_none (by omega)]
    · rw [if_neg c]
      by_cases m : i ∈ vs ∧ i < σ.length
      · rw [if_pos m, if_pos ⟨List.mem_cons_of_mem _ m.1, m.2⟩]
      · rw [if_neg m, if_neg fun z => m ⟨(List.mem_cons.mp z.1).resolve_left (fun e => c e.symm), z.2⟩]
theorem wipe_set {σ : L2.St} {i : Nat} {x : Option V} {vs : List Nat} (h : i ∈ vs) : wipe (σ.set i x) vs = wipe σ vs := by
  refine List.ext_getElem? fun j => ?_
  rw [wipe_get, wipe_get, List.length_set, List.getElem?_set]
  by_cases m : j ∈ vs ∧ j < σ.length
  · rw [if_pos m, if_pos m]
  · rw [if_neg m, if_neg m]
    by_cases c : i = j
    · subst c
      rw [if_pos rfl]
      have hl : ¬ i < σ.length := fun z => m ⟨h, z⟩
      rw [if_neg hl, List.getElem?_eq_none (by omega)]
    · rw [if_neg c]
theorem wipe_wipe (σ : L2.St) (vs : List Nat) : wipe (wipe σ vs) vs = wipe σ vs := by
  refine List.ext_getElem? fun j => ?_
  rw [wipe_get, wipe_length]
  split
  · rename_i m
    rw [wipe_get, if_pos m]
  · rfl
theorem bindTs_ok {vs : List Nat} : ∀ {is : List Nat} {xs : List V} {ds : List PyData} {n : Bool} {σ : L2.St} {ρ ρ' : Rho}, bindTs is ds n ρ = some ρ' → RpA (zz Z n) G xs ds → RepE Z G σ ρ → (∀ i ∈ is, i ∈ vs) → ∀ Q : L2.St → Hp → Prop,
    (∀ σ', RepE Z G σ' ρ' → wipe σ' vs = wipe σ vs → Q σ' H) → (is.foldr (fun i g => gCons (gName i) g) gNil) xs σ H Q
  | [], _, [], n, σ, ρ, ρ', e, r, h, _, Q, q => by
    cases r
    cases e
    exact ⟨rfl, q σ h rfl⟩
  | i :: is, _, d :: ds, n, σ, ρ, ρ', e, r, h, hi, Q, q => by
    cases r with
    | cons r t =>
      refine ⟨_, _, rfl, ?_⟩
      show (is.foldr (fun i g => gCons (gName i) g) gNil) _ (σ.set i (some _)) H Q
      refine bindTs_ok (is := is) (by unfold bindTs at e; exact e) t (h.set (p := (d, fl n d)) r.fl) (fun j hj => hi j (List.mem_cons_of_mem _ hj)) Q fun σ' h' w => q σ' h' ?_
      rw [w, wipe_set (hi i List.mem_cons_self)]
  | [], _, _ :: _, _, _, _, _, e, _, _, _, _, _ => by cases e
  | _ :: _, _, [], _, _, _, _, e, _, _, _, _, _ => by cases e
theorem bindTs_len : ∀ {is : List Nat} {ds : List PyData} {n : Bool} {ρ ρ' : Rho}, bindTs is ds n ρ = some ρ' → ds.length = is.length
  | [], [], _, _, _, _ => rfl
  | i :: is, d :: ds, n, ρ, ρ', e => by
    unfold bindTs at e
    rw [List.length_cons, List.length_cons, bindTs_len e]
  | [], _ :: _, _, _, _, e => by cases e
  | _ :: _, [], _, _, _, e => by cases e
theorem bindT_ok {tg : TgX} {vs : List Nat} {p : PB} {v : V} {σ : L2.St} {ρ ρ' : Rho} (e : bindT tg p ρ = some ρ') (r : Rp (zz Z p.2) G v p.1) (gh : Same G H) (h : RepE Z G σ ρ) (ht : tgIn tg vs = true) (Q : L2.St → Hp → Prop)
    (q : ∀ σ', RepE Z G σ' ρ' → wipe σ' vs = wipe σ vs → Q σ' H) : tgG K tg v σ H Q := by
  cases tg with
  | nm i =>
    unfold bindT at e
    cases e
    unfold tgIn at ht
    exact q _ (h.set r) (wipe_set (by simpa using ht))
  | tp is =>
    obtain ⟨d, n⟩ := p
    cases d <;> first | (cases e; done) | skip
    rename_i ds
    unfold bindT at e
    cases r with
    | tup ha ra =>
      refine ⟨_, _, rfl, sqT_of (gh _ _ ha), by rw [ra.length, bindTs_len e], ?_⟩
      unfold tgIn at ht
      rw [List.all_eq_true] at ht
      exact bindTs_ok e ra h (fun i hi => by simpa using ht i hi) Q q
end
end Un

set_option maxRecDepth 100000
set_option maxHeartbeats 4000000
namespace Un
open PySem PySem.Spec PyProof.Rows L2
variable (K : PySem.W.Frag)
abbrev FreshIn (Z : Addr → Prop) (H : Hp) : Prop := ∀ a, H a = none → Z a
def OkE (e : EX) : Prop := ∀ (ρ : Rho) (r : Rs), ev e ρ = some r → ∀ (Z : Addr → Prop) (G H : Hp) (σ : L2.St) (Q : VK), RepE Z G σ ρ → FreshIn Z H → Same G H → KK Z G H r Q → te K e σ H Q
def OkEs (es : EXs) : Prop := ∀ (ρ : Rho) (ps : List PB), evs es ρ = some ps → ∀ (Z : Addr → Prop) (G H : Hp) (σ : L2.St) (Q : List V → Hp → Prop), RepE Z G σ ρ → FreshIn Z H → Same G H →
  (∀ vs H' G', Grow G H G' H' → RpBs Z G' vs ps → Q vs H') → tas K es σ H Q
def OkP (p : PX) : Prop := ∀ (ρ : Rho) (o : Option Int), evP p ρ = some o → ∀ (Z : Addr → Prop) (G H : Hp) (σ : L2.St) (Q : Option Int → Hp → Prop), RepE Z G σ ρ → FreshIn Z H → Same G H →
  (∀ H' G', Grow G H G' H' → Q o H') → tpo K p σ H Q
def OkQ (t : QX) : Prop := ∀ (ρ : Rho) (b : Bool), evQ t ρ = some b → ∀ (Z : Addr → Prop) (G H : Hp) (σ : L2.St) (Q : Bool → Hp → Prop), RepE Z G σ ρ → FreshIn Z H → Same G H →
  (∀ H' G', Grow G H G' H' → Q b H') → tq K t σ H Q
def OkT (t : TX) : Prop := ∀ (ρ : Rho) (b : Bool), evT t ρ = some b → ∀ (Z : Addr → Prop) (G H : Hp) (σ : L2.St) (Q : Bool → Hp → Prop), RepE Z G σ ρ → FreshIn Z H → Same G H →
  (∀ H' G', Grow G H G' H' → Q b H') → tt K t σ H Q
variable {K}
theorem FreshIn.grow {Z : Addr → Prop} {G H G' H' : Hp} (h : FreshIn Z H) (g : Grow G H G' H') : FreshIn Z H' := fun a e => h a (g.sH.free e)
theorem OkE.step {e : EX} (h : OkE K e) {ρ : Rho} {p : Rs} (ep : ev e ρ = some p) {Z : Addr → Prop} {G H : Hp} {σ : L2.St} {Q : VK} (rep : RepE Z G σ ρ) (hZ : FreshIn Z H) (gh : Same G H)
    (q : ∀ v H' G', Grow G H G' H' → Rp (zz Z p.pb.2) G' v p.pb.1 → Q v H') : te K e σ H Q :=
  h ρ p ep Z G H σ Q rep hZ gh fun v H' G' g er => by
    obtain ⟨G2, g2, _, r⟩ := er.settle hZ g
    exact q v H' G2 g2 r
theorem rps_all {Z : Addr → Prop} {G : Hp} : ∀ {vs : List V} {ps : List PB}, RpBs Z G vs ps → RpA (zz Z (ps.all (·.2))) G vs (ps.map (·.1))
  | _, _, .nil => .nil
  | _, _, .cons (b := p) (l₂ := ps) r t => by
    rw [List.map_cons, List.all_cons]
    exact .cons (r.mono zz_all (Same.refl _)) ((rps_all t).mono zz_all2 (Same.refl _))
theorem rps_len {Z : Addr → Prop} {G : Hp} {vs : List V} {ps : List PB} (h : RpBs Z G vs ps) : vs.length = ps.length := Paired.length h
theorem rps_any {Z : Addr → Prop} {G : Hp} : ∀ {vs : List V} {ps : List PB}, RpBs Z G vs ps → RpA (fun _ => True) G vs (ps.map (·.1))
  | _, _, .nil => .nil
  | _, _, .cons (b := p) (l₂ := ps) r t => by
    rw [List.map_cons]
    exact .cons (r.mono (fun _ _ => trivial) (Same.refl _)) (rps_any t)
theorem RpBs.same {Z : Addr → Prop} {G G' : Hp} (s : Same G G') : ∀ {vs : List V} {ps : List PB}, RpBs Z G vs ps → RpBs Z G' vs ps
  | _, _, .nil => .nil
  | _, _, .cons r t => .cons (r.same s) (RpBs.same s t)
theorem RpBs.snoc {Z : Addr → Prop} {G : Hp} {v : V} {p : PB} : ∀ {vs : List V} {ps : List PB}, RpBs Z G vs ps → Rp (zz Z p.2) G v p.1 → RpBs Z G (vs ++ [v]) (ps ++ [p])
  | _, _, .nil, r => .cons r .nil
  | _, _, .cons r t, r2 => .cons r (RpBs.snoc t r2)
theorem RpA.vals {Z : Addr → Prop} {G : Hp} : ∀ {vs : List V} {ds : List PyData} {i : Nat}, RpA Z G vs ds → i < ds.length → ∃ v d, vs[i]? = some v ∧ ds[i]? = some d ∧ Rp Z G v d := by
  intro vs ds i r h
  obtain ⟨v, h1, h2⟩ := r.get (List.getElem?_eq_getElem h)
  exact ⟨v, _, h1, List.getElem?_eq_getElem h, h2⟩
theorem permL_rp {Z : Addr → Prop} {G : Hp} {vs : List V} {ds : List PyData} (r : RpA Z G vs ds) : ∀ ix : List Nat, RpA Z G (permL ix vs) (permL ix ds)
  | [] => .nil
  | i :: ix => by
    unfold permL
    rw [List.filterMap_cons, List.filterMap_cons]
    have ih := permL_rp r ix
    unfold permL at ih
    by_cases h : i < ds.length
    · obtain ⟨v, d, h1, h2, h3⟩ := r.vals h
      rw [h1, h2]
      exact .cons h3 ih
    · rw [List.getElem?_eq_none (show vs.length ≤ i by rw [r.length]; omega), List.getElem?_eq_none (show ds.length ≤ i by omega)]
      exact ih
theorem Grow.mutH {G H G' H' : Hp} {p : Addr} {o : HO} (g : Grow G H G' H') (np : H p = none) (gp : G' p = none) : Grow G H G' (upd H' p o) :=
  ⟨Same.mut g.sH np, g.sG, fun b u e => by
    rw [upd_ne (ne_of_none e gp)]
    exact g.gh b u e, g.nw⟩
theorem rng_rp {Z : Addr → Prop} {G : Hp} (a b : Int) : RpA Z G (rgV a b) (rngD a b) := by
  unfold rgV rngD
  generalize (List.range (b - a).toNat) = l
  induction l with
  | nil => exact .nil
  | cons x l ih => exact .cons (.int _) ih
theorem rgB_ok {a b : Int} (h : rgB a b = true) : RgOk a b := by
  unfold rgB at h
  obtain ⟨h1, h2, h3, h4, h5⟩ := of_decide_eq_true h
  exact ⟨h1, h2, h3, h4, by omega⟩
/-- the turns of a comprehension -/
theorem lc_ok {Z : Addr → Prop} {G H : Hp} {σ : L2.St} {ρ : Rho} {J : It} {items : List PB} {tg : TgX} {t : QX} {e : EX} {vs : List Nat} {ys : List PB} {Q : VK} (ht : OkQ K t) (he : OkE K e) (rep : RepE Z G σ ρ) (hZ : FreshIn Z H) (gh : Same G H)
    (fd : Feeds Z J G items) (hl : lcGo tg (fun ρ' => evQ t ρ') (fun ρ' => ev e ρ') (wipeR ρ vs) items = some ys) (hsz : ys.length ≤ 100000) (htg : tgIn tg vs = true) (q : KK Z G H ⟨.list (ys.map (·.1)), ys.all (·.2), true⟩ Q) :
    ∀ D, H D = none → ∃ W : Nat → Nat → Hp → Prop, (∃ m, W 0 m (upd H D (.lst []))) ∧ ∀ i m H, W i m H →
      (J.stop i H ∧ Q (.ref D) H) ∨ (J.go i H ∧ ∃ Nx : Hp → Prop, (∀ H', Nx H' → ∃ m', m' < m ∧ W (i + 1) m' H') ∧ ∀ x H', J.yld i H x H' → tgG K tg x (wipe σ vs) H' fun σ2 H2 => wipe σ2 vs = wipe σ vs ∧ tq K t σ2 H2 fun b H3 =>
        if b = true then te K e σ2 H3 fun y H4 => ∃ acc, H4 D = some (.lst acc) ∧ acc.length < sizeLine ∧ Nx (upd H4 D (.lst (acc ++ [y]))) else Nx H3) := by
  intro D nD
  refine ⟨fun i m H2 => i + m = items.length ∧ ∃ (G2 : Hp) (acc : List V) (y1 y2 : List PB), Grow G H G2 H2 ∧ G2 D = none ∧ H2 D = some (.lst acc) ∧ RpBs Z G2 acc y1 ∧ ys = y1 ++ y2 ∧ lcGo tg (fun ρ' => evQ t ρ') (fun ρ' => ev e ρ') (wipeR ρ vs) (items.drop i) = some y2,
    ⟨items.length, by omega, G, [], [], ys, (Grow.refl gh).newH nD, gh.free nD, upd_same, .nil, rfl, hl⟩, ?_⟩
  rintro i m H2 ⟨him, G2, acc, y1, y2, g2, gD, hD, rp, ey, hgo⟩
  obtain ⟨f1, f2⟩ := fd G2 H2 i g2.sG g2.gh
  by_cases hi : i < items.length
  · obtain ⟨go, yl⟩ := f1 _ (List.getElem?_eq_getElem hi)
    rw [List.drop_eq_getElem_cons hi] at hgo
    generalize items[i] = x0 at hgo yl
    refine .inr ⟨go, fun H' => ∃ (G2 : Hp) (acc : List V) (y1 y2 : List PB), Grow G H G2 H' ∧ G2 D = none ∧ H' D = some (.lst acc) ∧ RpBs Z G2 acc y1 ∧ ys = y1 ++ y2 ∧ lcGo tg (fun ρ' => evQ t ρ') (fun ρ' => ev e ρ') (wipeR ρ vs) (items.drop (i + 1)) = some y2,
      fun H' h => ⟨m - 1, by omega, by omega, h⟩, fun x H3 hy => ?_⟩
    obtain ⟨G3, g3, rx⟩ := yl x H3 hy
    unfold lcGo at hgo
    obtain ⟨ρ1, e1, hgo⟩ := Option.bind_eq_some_iff.mp hgo
    obtain ⟨b, e2, hgo⟩ := Option.bind_eq_some_iff.mp hgo
    have G3D := g3.nw D (by rw [hD]; exact fun z => nomatch z) gD
    have rep3 : RepE Z G3 (wipe σ vs) (wipeR ρ vs) := (rep.wipe vs).same (g2.sG.trans g3.sG)
    refine bindT_ok e1 rx g3.gh rep3 htg _ fun σ2 rep4 hw => ⟨by rw [hw, wipe_wipe], ?_⟩
    have hZ3 : FreshIn Z H3 := hZ.grow (g2.trans g3)
    refine ht _ b e2 Z G3 H3 σ2 _ rep4 hZ3 g3.gh fun H4 G4 g4 => ?_
    have G4D := g4.nw D (by rw [g3.sH _ _ hD]; exact fun z => nomatch z) G3D
    cases b with
    | false =>
      rw [if_neg Bool.false_ne_true]
      rw [if_neg Bool.false_ne_true] at hgo
      exact ⟨G4, acc, y1, y2, (g2.trans g3).trans g4, G4D, g4.sH _ _ (g3.sH _ _ hD), rp.same (g3.sG.trans g4.sG), ey, hgo⟩
    | true =>
      rw [if_pos rfl]
      rw [if_pos rfl] at hgo
      obtain ⟨r, e3, hgo⟩ := Option.bind_eq_some_iff.mp hgo
      obtain ⟨y3, e4, rfl⟩ := Option.map_eq_some_iff.mp hgo
      refine he.step e3 (rep4.same g4.sG) (hZ3.grow g4) g4.gh fun v H5 G5 g5 rv => ?_
      have hD4 := g4.sH _ _ (g3.sH _ _ hD)
      have G5D := g5.nw D (by rw [hD4]; exact fun z => nomatch z) G4D
      have hlen : acc.length < sizeLine := by
        have h1 := rps_len rp
        have h2 : ys.length = y1.length + (y3.length + 1) := by rw [ey, List.length_append, List.length_cons]
        have h3 : 100000 ≤ sizeLine := by decide
        omega
      refine ⟨acc, g5.sH _ _ hD4, hlen, G5, acc ++ [v], y1 ++ [r.pb], y3, (((g2.trans g3).trans g4).trans g5).mutH nD G5D, G5D, upd_same, (rp.same ((g3.sG.trans g4.sG).trans g5.sG)).snoc rv, ?_, e4⟩
      rw [ey, List.append_assoc] <;> rfl
  · refine .inl ⟨f2 (by omega), ?_⟩
    rw [List.drop_eq_nil_of_le (by omega)] at hgo
    unfold lcGo at hgo
    cases hgo
    rw [List.append_nil] at ey
    subst ey
    exact q (.ref D) H2 G2 g2 ⟨D, acc, _, rfl, rfl, nD, hD, gD, rps_all rp⟩
/-- the inner turns of a comprehension with two clauses -/
theorem lcIn_ok {Z : Addr → Prop} {G0 H0 G H : Hp} {D : Addr} {σ : L2.St} {ρ : Rho} {J : It} {items : List PB} {tg : TgX} {t : QX} {e : EX} {vs : List Nat} {acc0 : List V} {y0 ys : List PB} {Nx : Hp → Prop} (ht : OkQ K t) (he : OkE K e) (rep : RepE Z G σ ρ) (hZ : FreshIn Z H0)
    (g0 : Grow G0 H0 G H) (nD : H0 D = none) (gD0 : G D = none) (hD0 : H D = some (.lst acc0)) (rp0 : RpBs Z G acc0 y0) (fd : Feeds Z J G items) (hl : lcGo tg (fun ρ' => evQ t ρ') (fun ρ' => ev e ρ') (wipeR ρ vs) items = some ys) (hsz : y0.length + ys.length ≤ 100000) (htg : tgIn tg vs = true)
    (q : ∀ (G' H' : Hp) (acc : List V), Grow G0 H0 G' H' → G' D = none → H' D = some (.lst acc) → RpBs Z G' acc (y0 ++ ys) → Nx H') :
    ∃ W : Nat → Nat → Hp → Prop, (∃ m, W 0 m H) ∧ ∀ i m H, W i m H →
      (J.stop i H ∧ Nx H) ∨ (J.go i H ∧ ∃ Nx1 : Hp → Prop, (∀ H', Nx1 H' → ∃ m', m' < m ∧ W (i + 1) m' H') ∧ ∀ x H', J.yld i H x H' → tgG K tg x (wipe σ vs) H' fun σ2 H2 => wipe σ2 vs = wipe σ vs ∧ tq K t σ2 H2 fun b H3 =>
        if b = true then te K e σ2 H3 fun y H4 => ∃ acc, H4 D = some (.lst acc) ∧ acc.length < sizeLine ∧ Nx1 (upd H4 D (.lst (acc ++ [y]))) else Nx1 H3) := by
  have gh := g0.gh
  refine ⟨fun i m H2 => i + m = items.length ∧ ∃ (G2 : Hp) (acc : List V) (y1 y2 : List PB), Grow G0 H0 G2 H2 ∧ Same G G2 ∧ G2 D = none ∧ H2 D = some (.lst acc) ∧ RpBs Z G2 acc (y0 ++ y1) ∧ ys = y1 ++ y2 ∧ lcGo tg (fun ρ' => evQ t ρ') (fun ρ' => ev e ρ') (wipeR ρ vs) (items.drop i) = some y2,
    ⟨items.length, by omega, G, acc0, [], ys, g0, Same.refl _, gD0, hD0, by rw [List.append_nil]; exact rp0, rfl, hl⟩, ?_⟩
  rintro i m H2 ⟨him, G2, acc, y1, y2, g2, sg, gD, hD, rp, ey, hgo⟩
  obtain ⟨f1, f2⟩ := fd G2 H2 i sg g2.gh
  by_cases hi : i < items.length
  · obtain ⟨go, yl⟩ := f1 _ (List.getElem?_eq_getElem hi)
    rw [List.drop_eq_getElem_cons hi] at hgo
    generalize items[i] = x0 at hgo yl
    refine .inr ⟨go, fun H' => ∃ (G2 : Hp) (acc : List V) (y1 y2 : List PB), Grow G0 H0 G2 H' ∧ Same G G2 ∧ G2 D = none ∧ H' D = some (.lst acc) ∧ RpBs Z G2 acc (y0 ++ y1) ∧ ys = y1 ++ y2 ∧ lcGo tg (fun ρ' => evQ t ρ') (fun ρ' => ev e ρ') (wipeR ρ vs) (items.drop (i + 1)) = some y2,
      fun H' h => ⟨m - 1, by omega, by omega, h⟩, fun x H3 hy => ?_⟩
    obtain ⟨G3, g3, rx⟩ := yl x H3 hy
    unfold lcGo at hgo
    obtain ⟨ρ1, e1, hgo⟩ := Option.bind_eq_some_iff.mp hgo
    obtain ⟨b, e2, hgo⟩ := Option.bind_eq_some_iff.mp hgo
    have G3D := g3.nw D (by rw [hD]; exact fun z => nomatch z) gD
    have rep3 : RepE Z G3 (wipe σ vs) (wipeR ρ vs) := (rep.wipe vs).same (sg.trans g3.sG)
    refine bindT_ok e1 rx g3.gh rep3 htg _ fun σ2 rep4 hw => ⟨by rw [hw, wipe_wipe], ?_⟩
    have hZ3 : FreshIn Z H3 := hZ.grow (g2.trans g3)
    refine ht _ b e2 Z G3 H3 σ2 _ rep4 hZ3 g3.gh fun H4 G4 g4 => ?_
    have G4D := g4.nw D (by rw [g3.sH _ _ hD]; exact fun z => nomatch z) G3D
    cases b with
    | false =>
      rw [if_neg Bool.false_ne_true]
      rw [if_neg Bool.false_ne_true] at hgo
      exact ⟨G4, acc, y1, y2, (g2.trans g3).trans g4, sg.trans (g3.sG.trans g4.sG), G4D, g4.sH _ _ (g3.sH _ _ hD), rp.same (g3.sG.trans g4.sG), ey, hgo⟩
    | true =>
      rw [if_pos rfl]
      rw [if_pos rfl] at hgo
      obtain ⟨r, e3, hgo⟩ := Option.bind_eq_some_iff.mp hgo
      obtain ⟨y3, e4, rfl⟩ := Option.map_eq_some_iff.mp hgo
      refine he.step e3 (rep4.same g4.sG) (hZ3.grow g4) g4.gh fun v H5 G5 g5 rv => ?_
      have hD4 := g4.sH _ _ (g3.sH _ _ hD)
      have G5D := g5.nw D (by rw [hD4]; exact fun z => nomatch z) G4D
      have hlen : acc.length < sizeLine := by
        have h1 := rps_len rp
        have h2 : ys.length = y1.length + (y3.length + 1) := by rw [ey, List.length_append, List.length_cons]
        have h3 : 100000 ≤ sizeLine := by decide
        rw [List.length_append] at h1
        omega
      refine ⟨acc, g5.sH _ _ hD4, hlen, G5, acc ++ [v], y1 ++ [r.pb], y3, (((g2.trans g3).trans g4).trans g5).mutH nD G5D, sg.trans ((g3.sG.trans g4.sG).trans g5.sG), G5D, upd_same, ?_, ?_, e4⟩
      · rw [← List.append_assoc]
        exact (rp.same ((g3.sG.trans g4.sG).trans g5.sG)).snoc rv
      · rw [ey, List.append_assoc] <;> rfl
  · refine .inl ⟨f2 (by omega), ?_⟩
    rw [List.drop_eq_nil_of_le (by omega)] at hgo
    unfold lcGo at hgo
    cases hgo
    rw [List.append_nil] at ey
    subst ey
    exact q G2 H2 acc g2 gD hD rp
/-- the turns of a comprehension with two clauses -/
theorem lc2_ok {Z : Addr → Prop} {G H : Hp} {σ : L2.St} {ρ : Rho} {J : It} {items : List PB} {tg tg1 : TgX} {t t1 : QX} {k1 : SK} {src1 : EXs} {e : EX} {vs vs1 : List Nat} {ys : List PB} {Q : VK} (ht : OkQ K t) (hs1 : OkEs K src1) (ht1 : OkQ K t1) (he : OkE K e) (rep : RepE Z G σ ρ) (hZ : FreshIn Z H) (gh : Same G H)
    (fd : Feeds Z J G items) (hl : lc2Go tg (fun ρ' => evQ t ρ') (fun ρ' => (evs src1 ρ').bind fun qs => srcF k1 qs) tg1 (fun ρ' => evQ t1 ρ') (fun ρ' => ev e ρ') vs1 (wipeR ρ vs) items = some ys) (hsz : ys.length ≤ 100000) (htg : tgIn tg vs = true) (htg1 : tgIn tg1 vs1 = true) (q : KK Z G H ⟨.list (ys.map (·.1)), ys.all (·.2), true⟩ Q) :
    ∀ D, H D = none → ∃ W : Nat → Nat → Hp → Prop, (∃ m, W 0 m (upd H D (.lst []))) ∧ ∀ i m H, W i m H →
      (J.stop i H ∧ Q (.ref D) H) ∨ (J.go i H ∧ ∃ Nx : Hp → Prop, (∀ H', Nx H' → ∃ m', m' < m ∧ W (i + 1) m' H') ∧ ∀ x H', J.yld i H x H' → tgG K tg x (wipe σ vs) H' fun σ2 H2 => wipe σ2 vs = wipe σ vs ∧ tq K t σ2 H2 fun b H3 =>
        if b = true then tiS K k1 (tas K src1) σ2 H3 fun J1 H4 => ∃ W1 : Nat → Nat → Hp → Prop, (∃ m, W1 0 m H4) ∧ ∀ j k H, W1 j k H →
          (J1.stop j H ∧ Nx H) ∨ (J1.go j H ∧ ∃ Nx1 : Hp → Prop, (∀ H', Nx1 H' → ∃ k', k' < k ∧ W1 (j + 1) k' H') ∧ ∀ x H', J1.yld j H x H' → tgG K tg1 x (wipe σ2 vs1) H' fun σ3 H5 => wipe σ3 vs1 = wipe σ2 vs1 ∧ tq K t1 σ3 H5 fun b H6 =>
            if b = true then te K e σ3 H6 fun y H7 => ∃ acc, H7 D = some (.lst acc) ∧ acc.length < sizeLine ∧ Nx1 (upd H7 D (.lst (acc ++ [y]))) else Nx1 H6)
        else Nx H3) := by
  intro D nD
  refine ⟨fun i m H2 => i + m = items.length ∧ ∃ (G2 : Hp) (acc : List V) (y1 y2 : List PB), Grow G H G2 H2 ∧ G2 D = none ∧ H2 D = some (.lst acc) ∧ RpBs Z G2 acc y1 ∧ ys = y1 ++ y2 ∧ lc2Go tg (fun ρ' => evQ t ρ') (fun ρ' => (evs src1 ρ').bind fun qs => srcF k1 qs) tg1 (fun ρ' => evQ t1 ρ') (fun ρ' => ev e ρ') vs1 (wipeR ρ vs) (items.drop i) = some y2,
    ⟨items.length, by omega, G, [], [], ys, (Grow.refl gh).newH nD, gh.free nD, upd_same, .nil, rfl, hl⟩, ?_⟩
  rintro i m H2 ⟨him, G2, acc, y1, y2, g2, gD, hD, rp, ey, hgo⟩
  obtain ⟨f1, f2⟩ := fd G2 H2 i g2.sG g2.gh
  by_cases hi : i < items.length
  · obtain ⟨go, yl⟩ := f1 _ (List.getElem?_eq_getElem hi)
    rw [List.drop_eq_getElem_cons hi] at hgo
    generalize items[i] = x0 at hgo yl
    refine .inr ⟨go, fun H' => ∃ (G2 : Hp) (acc : List V) (y1 y2 : List PB), Grow G H G2 H' ∧ G2 D = none ∧ H' D = some (.lst acc) ∧ RpBs Z G2 acc y1 ∧ ys = y1 ++ y2 ∧ lc2Go tg (fun ρ' => evQ t ρ') (fun ρ' => (evs src1 ρ').bind fun qs => srcF k1 qs) tg1 (fun ρ' => evQ t1 ρ') (fun ρ' => ev e ρ') vs1 (wipeR ρ vs) (items.drop (i + 1)) = some y2,
      fun H' h => ⟨m - 1, by omega, by omega, h⟩, fun x H3 hy => ?_⟩
    obtain ⟨G3, g3, rx⟩ := yl x H3 hy
    unfold lc2Go at hgo
    obtain ⟨ρ1, e1, hgo⟩ := Option.bind_eq_some_iff.mp hgo
    obtain ⟨b, e2, hgo⟩ := Option.bind_eq_some_iff.mp hgo
    have G3D := g3.nw D (by rw [hD]; exact fun z => nomatch z) gD
    have rep3 : RepE Z G3 (wipe σ vs) (wipeR ρ vs) := (rep.wipe vs).same (g2.sG.trans g3.sG)
    refine bindT_ok e1 rx g3.gh rep3 htg _ fun σ2 rep4 hw => ⟨by rw [hw, wipe_wipe], ?_⟩
    have hZ3 : FreshIn Z H3 := hZ.grow (g2.trans g3)
    refine ht _ b e2 Z G3 H3 σ2 _ rep4 hZ3 g3.gh fun H4 G4 g4 => ?_
    have G4D := g4.nw D (by rw [g3.sH _ _ hD]; exact fun z => nomatch z) G3D
    cases b with
    | false =>
      rw [if_neg Bool.false_ne_true]
      rw [if_neg Bool.false_ne_true] at hgo
      exact ⟨G4, acc, y1, y2, (g2.trans g3).trans g4, G4D, g4.sH _ _ (g3.sH _ _ hD), rp.same (g3.sG.trans g4.sG), ey, hgo⟩
    | true =>
      rw [if_pos rfl]
      rw [if_pos rfl] at hgo
      obtain ⟨its1, e3, hgo⟩ := Option.bind_eq_some_iff.mp hgo
      obtain ⟨qs, e5, e6⟩ := Option.bind_eq_some_iff.mp e3
      obtain ⟨z1, e4, hgo⟩ := Option.bind_eq_some_iff.mp hgo
      obtain ⟨y3, e7, rfl⟩ := Option.map_eq_some_iff.mp hgo
      have rep5 := rep4.same g4.sG
      have hZ4 := hZ3.grow g4
      refine src_ok (Z := Z) g4.gh (fun R hR => hs1 ρ1 qs e5 Z G4 H4 σ2 _ rep5 hZ4 g4.gh hR) e6 fun J1 G5 H5 g5 fd1 => ?_
      have hD4 := g4.sH _ _ (g3.sH _ _ hD)
      have G5D := g5.nw D (by rw [hD4]; exact fun z => nomatch z) G4D
      have hl1 : y1.length + z1.length ≤ 100000 := by
        rw [ey, List.length_append, List.length_append] at hsz
        omega
      refine lcIn_ok ht1 he (rep5.same g5.sG) hZ (((g2.trans g3).trans g4).trans g5) nD G5D (g5.sH _ _ hD4) (rp.same ((g3.sG.trans g4.sG).trans g5.sG)) fd1 e4 hl1 htg1 fun G6 H6 acc6 g6 G6D hD6 rp6 => ?_
      exact ⟨G6, acc6, y1 ++ z1, y3, g6, G6D, hD6, rp6, by rw [ey, List.append_assoc], e7⟩
  · refine .inl ⟨f2 (by omega), ?_⟩
    rw [List.drop_eq_nil_of_le (by omega)] at hgo
    unfold lc2Go at hgo
    cases hgo
    rw [List.append_nil] at ey
    subst ey
    exact q (.ref D) H2 G2 g2 ⟨D, acc, _, rfl, rfl, nD, hD, gD, rps_all rp⟩
theorem zip_nolA {b : Bool} : ∀ {ds es : List PyData}, nolA ds = true → nolA es = true → nolA ((zipL b ds es).map (·.1)) = true
  | [], _, _, _ => by
    unfold zipL
    rfl
  | _ :: _, [], _, _ => by
    unfold zipL
    rfl
  | d :: ds, e :: es, h1, h2 => by
    have h1 : (nol d && nolA ds) = true := h1
    have h2 : (nol e && nolA es) = true := h2
    rw [Bool.and_eq_true] at h1 h2
    unfold zipL
    show (nol (.tuple [d, e]) && nolA ((zipL b ds es).map (·.1))) = true
    rw [zip_nolA h1.2 h2.2]
    show ((nol d && (nol e && true)) && true) = true
    rw [h1.1, h2.1] <;> rfl
theorem zip_nol {Z : Addr → Prop} {G : Hp} {xs : List V} {n m : Bool} {ds es : List PyData} (h : RpA (zz Z (n && m)) G xs ((zipL (n && m) ds es).map (·.1))) : RpA (zz Z ((n && m) || (nolA ds && nolA es))) G xs ((zipL (n && m) ds es).map (·.1)) := by
  cases q : (nolA ds && nolA es) with
  | true =>
    rw [Bool.and_eq_true] at q
    exact h.nol (zip_nolA q.1 q.2)
  | false =>
    rw [Bool.or_false]
    exact h
theorem zs_grow {Z : Addr → Prop} {G H H2 : Hp} {S : Addr} {ts : List Addr} {xs ys : List V} {ds es : List PyData} {n m : Bool} (gh : Same G H) (sm : Same H H2) (hS : H S = none) (zs : Zs H H2 S ts (xs.zip ys)) (rx : RpA (zz Z n) G xs ds) (ry : RpA (zz Z m) G ys es) :
    ∃ G', Grow G H G' H2 ∧ G' S = none ∧ RpA (zz Z (n && m)) G' (ts.map V.ref) ((zipL (n && m) ds es).map (·.1)) := by
  let G' : Hp := fun c => if H c = none ∧ c ≠ S then H2 c else G c
  have gg : ∀ c, H c ≠ none → G' c = G c := fun c h => if_neg fun z => h z.1
  have gt : ∀ c, H c = none → c ≠ S → G' c = H2 c := fun c h1 h2 => if_pos ⟨h1, h2⟩
  have sG : Same G G' := fun c o e => by
    rw [gg c (by rw [gh _ _ e]; exact fun z => nomatch z)]
    exact e
  refine ⟨G', ⟨sm, sG, fun c o e => ?_, fun c h e => ?_⟩, ?_, ?_⟩
  · by_cases h : H c = none ∧ c ≠ S
    · rw [gt c h.1 h.2] at e
      exact e
    · have e' : G c = some o := by
        have z : G' c = G c := if_neg h
        rw [z] at e
        exact e
      exact sm _ _ (gh _ _ e')
  · rw [gg c h]
    exact e
  · show (if H S = none ∧ S ≠ S then H2 S else G S) = none
    rw [if_neg fun z => z.2 rfl]
    exact gh.free hS
  · have key : ∀ {xs : List V} {ds : List PyData}, RpA (zz Z n) G xs ds → ∀ {ys : List V} {es : List PyData} {ts : List Addr}, RpA (zz Z m) G ys es → Zs H H2 S ts (xs.zip ys) → RpA (zz Z (n && m)) G' (ts.map V.ref) ((zipL (n && m) ds es).map (·.1)) := by
      intro xs
      induction xs with
      | nil =>
        intro ds r ys es ts r2 z
        cases r
        cases z
        exact .nil
      | cons x xs ih =>
        intro ds r ys es ts r2 z
        cases r with
        | cons rx rxs =>
          cases r2 with
          | nil =>
            cases z
            exact .nil
          | cons ry rys =>
            cases z with
            | cons z1 zs =>
              rw [List.map_cons]
              unfold zipL
              rw [List.map_cons]
              refine .cons (.tup ?_ (.cons (rx.mono zz_all sG) (.cons (ry.mono zz_all2 sG) .nil))) (ih rxs rys zs)
              rw [gt _ z1.1 z1.2.1]
              exact z1.2.2
    exact key rx ry zs
mutual
theorem ev_ok : ∀ e : EX, OkE K e
  | .var i => fun ρ r h Z G H σ Q rep hZ gh k => by
    unfold ev at h
    obtain ⟨p, hp, rfl⟩ := Option.map_eq_some_iff.mp h
    unfold getR at hp
    split at hp
    · rename_i p' e
      cases hp
      obtain ⟨v, h1, h2⟩ := rep.at_ i _ e
      exact ⟨v, h1, k.val gh rfl h2⟩
    · cases hp
  | .cst d => fun ρ r h Z G H σ Q rep hZ gh k => by
    unfold ev at h
    split at h
    · rename_i hs
      cases h
      exact k.val gh rfl (rp_sc hs)
    · cases h
  | .dic0 => fun ρ r h Z G H σ Q rep hZ gh k => by
    unfold ev at h
    cases h
    exact fun p np => k.dic0 hZ gh np
  | .bin o a b => fun ρ r h Z G H σ Q rep hZ gh k => by
    unfold ev at h
    obtain ⟨p, e1, h⟩ := Option.bind_eq_some_iff.mp h
    obtain ⟨q, e2, h⟩ := Option.bind_eq_some_iff.mp h
    refine (ev_ok a).step e1 rep hZ gh fun v H1 G1 g1 r1 => ?_
    refine (ev_ok b).step e2 (rep.same g1.sG) (hZ.grow g1) g1.gh fun w H2 G2 g2 r2 => ?_
    exact o.ok Z G2 H2 v w p.pb q.pb r h (hZ.grow (g1.trans g2)) g2.gh (r1.same g2.sG) r2 Q (k.go (g1.trans g2))
  | .un o a => fun ρ r h Z G H σ Q rep hZ gh k => by
    unfold ev at h
    obtain ⟨p, e1, h⟩ := Option.bind_eq_some_iff.mp h
    refine (ev_ok a).step e1 rep hZ gh fun v H1 G1 g1 r1 => ?_
    exact o.ok Z G1 H1 v p.pb r h (hZ.grow g1) g1.gh r1 Q (k.go g1)
  | .andE a b => fun ρ r h Z G H σ Q rep hZ gh k => by
    unfold ev at h
    obtain ⟨p, e1, h⟩ := Option.bind_eq_some_iff.mp h
    refine (ev_ok a).step e1 rep hZ gh fun v H1 G1 g1 r1 => ?_
    dsimp only [Rs.pb] at r1
    split at h
    · rename_i ed
      rw [ed] at r1
      cases r1
      refine ⟨true, rfl, ?_⟩
      rw [if_pos rfl]
      exact ev_ok b ρ r h Z G1 H1 σ Q (rep.same g1.sG) (hZ.grow g1) g1.gh (k.go g1)
    · rename_i ed
      rw [ed] at r1
      cases r1
      cases h
      refine ⟨false, rfl, ?_⟩
      rw [if_neg Bool.false_ne_true]
      exact (k.go g1).val g1.gh rfl (.bl _)
    · cases h
  | .orE a b => fun ρ r h Z G H σ Q rep hZ gh k => by
    unfold ev at h
    obtain ⟨p, e1, h⟩ := Option.bind_eq_some_iff.mp h
    refine (ev_ok a).step e1 rep hZ gh fun v H1 G1 g1 r1 => ?_
    dsimp only [Rs.pb] at r1
    split at h
    · rename_i ed
      rw [ed] at r1
      cases r1
      cases h
      refine ⟨true, rfl, ?_⟩
      rw [if_pos rfl]
      exact (k.go g1).val g1.gh rfl (.bl _)
    · rename_i ed
      rw [ed] at r1
      cases r1
      refine ⟨false, rfl, ?_⟩
      rw [if_neg Bool.false_ne_true]
      exact ev_ok b ρ r h Z G1 H1 σ Q (rep.same g1.sG) (hZ.grow g1) g1.gh (k.go g1)
    · cases h
  | .notE a => fun ρ r h Z G H σ Q rep hZ gh k => by
    unfold ev at h
    obtain ⟨p, e1, h⟩ := Option.bind_eq_some_iff.mp h
    refine (ev_ok a).step e1 rep hZ gh fun v H1 G1 g1 r1 => ?_
    dsimp only [Rs.pb] at r1
    split at h
    · rename_i ed
      rw [ed] at r1
      cases r1
      cases h
      exact ⟨_, rfl, (k.go g1).val g1.gh rfl (.bl _)⟩
    · cases h
  | .ife c a b => fun ρ r h Z G H σ Q rep hZ gh k => by
    unfold ev at h
    obtain ⟨p, e1, h⟩ := Option.bind_eq_some_iff.mp h
    refine evT_ok c ρ p e1 Z G H σ _ rep hZ gh fun H1 G1 g1 => ?_
    cases p with
    | true =>
      rw [if_pos rfl]
      rw [if_pos rfl] at h
      exact ev_ok a ρ r h Z G1 H1 σ Q (rep.same g1.sG) (hZ.grow g1) g1.gh (k.go g1)
    | false =>
      rw [if_neg Bool.false_ne_true]
      rw [if_neg Bool.false_ne_true] at h
      exact ev_ok b ρ r h Z G1 H1 σ Q (rep.same g1.sG) (hZ.grow g1) g1.gh (k.go g1)
  | .chn o p a b c => fun ρ r h Z G H σ Q rep hZ gh k => by
    unfold ev at h
    obtain ⟨x, e1, h⟩ := Option.bind_eq_some_iff.mp h
    obtain ⟨y, e2, h⟩ := Option.bind_eq_some_iff.mp h
    obtain ⟨z, e3, h⟩ := Option.bind_eq_some_iff.mp h
    refine (ev_ok a).step e1 rep hZ gh fun v H1 G1 g1 r1 => ?_
    refine (ev_ok b).step e2 (rep.same g1.sG) (hZ.grow g1) g1.gh fun w H2 G2 g2 r2 => ?_
    refine o.ok Z G2 H2 v w x.pb y.pb z e3 (hZ.grow (g1.trans g2)) g2.gh (r1.same g2.sG) r2 _ fun u H3 G3 g3 er => ?_
    obtain ⟨G4, g4, _, r3⟩ := er.settle (hZ.grow (g1.trans g2)) g3
    dsimp only [Rs.pb] at r3
    split at h
    · rename_i ed
      rw [ed] at r3
      cases r3
      obtain ⟨w', e4, h⟩ := Option.bind_eq_some_iff.mp h
      refine ⟨true, rfl, ?_⟩
      rw [if_pos rfl]
      refine (ev_ok c).step e4 (rep.same ((g1.trans g2).trans g4).sG) (hZ.grow ((g1.trans g2).trans g4)) g4.gh fun w2 H5 G5 g5 r5 => ?_
      exact p.ok Z G5 H5 w w2 y.pb w'.pb r h (hZ.grow (((g1.trans g2).trans g4).trans g5)) g5.gh (r2.same (g4.sG.trans g5.sG)) r5 Q (k.go (((g1.trans g2).trans g4).trans g5))
    · rename_i ed
      rw [ed] at r3
      cases r3
      cases h
      refine ⟨false, rfl, ?_⟩
      rw [if_neg Bool.false_ne_true]
      exact (k.go ((g1.trans g2).trans g4)).val g4.gh rfl (.bl _)
    · cases h
  | .tup es => fun ρ r h Z G H σ Q rep hZ gh k => by
    unfold ev at h
    obtain ⟨ps, e1, h⟩ := Option.bind_eq_some_iff.mp h
    split at h
    · rename_i hz
      cases h
      refine evs_ok es ρ ps e1 Z G H σ _ rep hZ gh fun vs H1 G1 g1 rs => ⟨by rw [rps_len rs]; exact sz_le hz, fun p np => ?_⟩
      exact (k.go g1).tup g1.gh rfl rfl np (rps_all rs)
    · cases h
  | .lst es => fun ρ r h Z G H σ Q rep hZ gh k => by
    unfold ev at h
    obtain ⟨ps, e1, h⟩ := Option.bind_eq_some_iff.mp h
    split at h
    · rename_i hz
      cases h
      refine evs_ok es ρ ps e1 Z G H σ _ rep hZ gh fun vs H1 G1 g1 rs => ⟨by rw [rps_len rs]; exact sz_le hz, fun p np => ?_⟩
      exact (k.go g1).lst g1.gh rfl rfl np (rps_all rs)
    · cases h
  | .sl a lo hi => fun ρ r h Z G H σ Q rep hZ gh k => by
    unfold ev at h
    obtain ⟨p, e1, h⟩ := Option.bind_eq_some_iff.mp h
    obtain ⟨l, e2, h⟩ := Option.bind_eq_some_iff.mp h
    obtain ⟨u, e3, h⟩ := Option.bind_eq_some_iff.mp h
    refine (ev_ok a).step e1 rep hZ gh fun v H1 G1 g1 r1 => ?_
    refine evP_ok lo ρ l e2 Z G1 H1 σ _ (rep.same g1.sG) (hZ.grow g1) g1.gh fun H2 G2 g2 => ?_
    refine evP_ok hi ρ u e3 Z G2 H2 σ _ (rep.same (g1.trans g2).sG) (hZ.grow (g1.trans g2)) g2.gh fun H3 G3 g3 => ?_
    split at h
    · rename_i ds n ed
      cases h
      rw [ed] at r1
      have r2 := r1.same (g2.sG.trans g3.sG)
      cases r2 with
      | lst ha _ ra =>
        refine ⟨_, _, rfl, sqL_of (g3.gh _ _ ha), fun q nq => ?_⟩
        have z := (k.go ((g1.trans g2).trans g3)).lst g3.gh rfl rfl nq ((ra.drop _).take _)
        unfold cutV
        rw [ra.length]
        exact z
    · cases h
  | .rev a => fun ρ r h Z G H σ Q rep hZ gh k => by
    unfold ev at h
    obtain ⟨p, e1, h⟩ := Option.bind_eq_some_iff.mp h
    refine (ev_ok a).step e1 rep hZ gh fun v H1 G1 g1 r1 => ?_
    split at h
    · rename_i ds n ed
      cases h
      rw [ed] at r1
      cases r1 with
      | lst ha _ ra => exact ⟨_, _, rfl, sqL_of (g1.gh _ _ ha), fun q nq => (k.go g1).lst g1.gh rfl rfl nq ra.reverse⟩
    · cases h
  | .cb o es => fun ρ r h Z G H σ Q rep hZ gh k => by
    unfold ev at h
    obtain ⟨ps, e1, h⟩ := Option.bind_eq_some_iff.mp h
    refine evs_ok es ρ ps e1 Z G H σ _ rep hZ gh fun vs H1 G1 g1 rs => ?_
    exact o.ok Z G1 H1 vs ps r h (hZ.grow g1) g1.gh rs Q (k.go g1)
  | .lrg1 a => fun ρ r h Z G H σ Q rep hZ gh k => by
    unfold ev at h
    obtain ⟨p, e1, h⟩ := Option.bind_eq_some_iff.mp h
    refine (ev_ok a).step e1 rep hZ gh fun v H1 G1 g1 r1 => ?_
    dsimp only [Rs.pb] at r1
    split at h
    · rename_i n ed
      rw [ed] at r1
      cases r1
      split at h
      · rename_i hb
        cases h
        exact ⟨_, rfl, rgB_ok hb, fun q nq => (k.go g1).lst g1.gh rfl rfl nq (rng_rp _ _)⟩
      · cases h
    · cases h
  | .lrg2 a b => fun ρ r h Z G H σ Q rep hZ gh k => by
    unfold ev at h
    obtain ⟨p, e1, h⟩ := Option.bind_eq_some_iff.mp h
    obtain ⟨p2, e2, h⟩ := Option.bind_eq_some_iff.mp h
    refine (ev_ok a).step e1 rep hZ gh fun v H1 G1 g1 r1 => ?_
    refine (ev_ok b).step e2 (rep.same g1.sG) (hZ.grow g1) g1.gh fun w H2 G2 g2 r2 => ?_
    dsimp only [Rs.pb] at r1 r2
    split at h
    · rename_i m n ed ed2
      rw [ed] at r1
      rw [ed2] at r2
      cases r1
      cases r2
      split at h
      · rename_i hb
        cases h
        exact ⟨_, _, rfl, rfl, rgB_ok hb, fun q nq => (k.go (g1.trans g2)).lst g2.gh rfl rfl nq (rng_rp _ _)⟩
      · cases h
    · cases h
  | .lzip a b => fun ρ r h Z G H σ Q rep hZ gh k => by
    unfold ev at h
    obtain ⟨p, e1, h⟩ := Option.bind_eq_some_iff.mp h
    obtain ⟨p2, e2, h⟩ := Option.bind_eq_some_iff.mp h
    refine (ev_ok a).step e1 rep hZ gh fun v H1 G1 g1 r1 => ?_
    refine (ev_ok b).step e2 (rep.same g1.sG) (hZ.grow g1) g1.gh fun w H2 G2 g2 r2 => ?_
    generalize p.pb = pp at h r1
    generalize p2.pb = qq at h r2
    obtain ⟨d, n⟩ := pp
    obtain ⟨d2, m⟩ := qq
    unfold lzF at h
    split at h
    · rename_i x1 x2
      cases x1
      cases x2
      cases h
      cases r1 with
      | lst ha _ ra =>
      cases r2 with
      | lst hb _ rb =>
      refine ⟨_, _, _, _, rfl, g2.gh _ _ (g2.sG _ _ ha), g2.gh _ _ hb, fun S ts H3 sm hS hS3 zs => ?_⟩
      obtain ⟨G3, g3, gS, rz⟩ := zs_grow g2.gh sm hS zs (ra.same g2.sG) rb
      exact (k.go (g1.trans g2)) _ H3 G3 g3 ⟨S, _, _, rfl, rfl, hS, hS3, gS, zip_nol rz⟩
    · cases h
  | .idx a b => fun ρ r h Z G H σ Q rep hZ gh k => by
    unfold ev at h
    obtain ⟨p, e1, h⟩ := Option.bind_eq_some_iff.mp h
    obtain ⟨q, e2, h⟩ := Option.bind_eq_some_iff.mp h
    refine (ev_ok a).step e1 rep hZ gh fun v H1 G1 g1 r1 => ?_
    unfold idxF at h
    split at h
    · rename_i x1 x2
      cases x2
      rw [x1] at r1
      split at h
      · rename_i hs
        rw [Bool.and_eq_true] at hs
        obtain ⟨j, ej, rfl⟩ := Option.map_eq_some_iff.mp h
        obtain ⟨hj, h1, h2⟩ := List.findIdx?_eq_some_iff_getElem.mp ej
        have d1 := (r1.same g1.gh).dp (K := K) (noD hs.2)
        cases r1 with
        | lst ha _ ra =>
        refine ⟨.inl ⟨rfl, _, sqL_of (g1.gh _ _ ha)⟩, ?_⟩
        refine (ev_ok b).step e2 (rep.same g1.sG) (hZ.grow g1) g1.gh fun u H2 G2 g2 r2 => ?_
        have d2 := (r2.same g2.gh).dp (K := K) (noD hs.1)
        refine ⟨_, u, _, _, j, _, rfl, rfl, Dp.lst (sqL_of (g2.sH _ _ (g1.gh _ _ ha))) (RpA.dp ((ra.same g2.sG).same g2.gh) (by simpa only [PyData.hasDict] using noD hs.2)), d2, hs.2, hs.1, List.getElem?_eq_getElem hj, h1, fun m z' lt hz => ?_, (k.go (g1.trans g2)).val g2.gh rfl (.int _)⟩
        have hm : m < _ := (List.getElem?_eq_some_iff.mp hz).1
        have := h2 m lt
        rw [(List.getElem?_eq_some_iff.mp hz).2] at this
        exact Bool.eq_false_iff.mpr this
      · cases h
    · cases h
  | .call fn es => fun ρ r h Z G H σ Q rep hZ gh k => by
    unfold ev at h
    obtain ⟨ps, e1, h⟩ := Option.bind_eq_some_iff.mp h
    obtain ⟨r', e2, rfl⟩ := Option.map_eq_some_iff.mp h
    refine evs_ok es ρ ps e1 Z G H σ _ rep hZ gh fun vs H1 G1 g1 rs => ?_
    rw [List.append_nil]
    exact ⟨Z, G1, _, r', e2, hZ.grow g1, g1.gh, rps_any rs, fun v H2 G2 g2 rv => (k.go g1) v H2 G2 g2 rv⟩
  | .kcall fn ix m es => fun ρ r h Z G H σ Q rep hZ gh k => by
    unfold ev at h
    obtain ⟨ps, e1, h⟩ := Option.bind_eq_some_iff.mp h
    split at h
    · rename_i hm
      obtain ⟨r', e2, rfl⟩ := Option.map_eq_some_iff.mp h
      refine evs_ok es ρ ps e1 Z G H σ _ rep hZ gh fun vs H1 G1 g1 rs => ⟨by rw [rps_len rs]; exact hm, ?_⟩
      exact ⟨Z, G1, _, r', e2, hZ.grow g1, g1.gh, permL_rp (rps_any rs) ix, fun v H2 G2 g2 rv => (k.go g1) v H2 G2 g2 rv⟩
    · cases h
  | .lc kd src tg t e vs => fun ρ r h Z G H σ Q rep hZ gh k => by
    unfold ev at h
    obtain ⟨ps, e1, h⟩ := Option.bind_eq_some_iff.mp h
    obtain ⟨items, e2, h⟩ := Option.bind_eq_some_iff.mp h
    obtain ⟨ys, e3, h⟩ := Option.bind_eq_some_iff.mp h
    split at h
    · rename_i hz
      cases h
      refine src_ok (Z := Z) gh (fun R hR => evs_ok src ρ ps e1 Z G H σ _ rep hZ gh hR) e2 fun J G1 H1 g1 fd => ?_
      exact lc_ok (evQ_ok t) (ev_ok e) (rep.same g1.sG) (hZ.grow g1) g1.gh fd e3 hz.1 hz.2 (k.go g1)
    · cases h
  | .lc2 kd src tg t k1 src1 tg1 t1 e vs vs1 => fun ρ r h Z G H σ Q rep hZ gh k => by
    unfold ev at h
    obtain ⟨ps, e1, h⟩ := Option.bind_eq_some_iff.mp h
    obtain ⟨items, e2, h⟩ := Option.bind_eq_some_iff.mp h
    obtain ⟨ys, e3, h⟩ := Option.bind_eq_some_iff.mp h
    split at h
    · rename_i hz
      cases h
      refine src_ok (Z := Z) gh (fun R hR => evs_ok src ρ ps e1 Z G H σ _ rep hZ gh hR) e2 fun J G1 H1 g1 fd => ?_
      exact lc2_ok (evQ_ok t) (evs_ok src1) (evQ_ok t1) (ev_ok e) (rep.same g1.sG) (hZ.grow g1) g1.gh fd e3 hz.1 hz.2.1 hz.2.2 (k.go g1)
    · cases h
theorem evs_ok : ∀ es : EXs, OkEs K es
  | .nil => fun ρ ps h Z G H σ Q rep hZ gh k => by
    unfold evs at h
    cases h
    exact k [] H G (Grow.refl gh) .nil
  | .cons e es => fun ρ ps h Z G H σ Q rep hZ gh k => by
    unfold evs at h
    obtain ⟨p, e1, h⟩ := Option.bind_eq_some_iff.mp h
    obtain ⟨ps', e2, rfl⟩ := Option.map_eq_some_iff.mp h
    refine (ev_ok e).step e1 rep hZ gh fun v H1 G1 g1 r1 => ?_
    refine evs_ok es ρ ps' e2 Z G1 H1 σ _ (rep.same g1.sG) (hZ.grow g1) g1.gh fun vs H2 G2 g2 rs => ?_
    exact k _ H2 G2 (g1.trans g2) (.cons (r1.same g2.sG) rs)
theorem evP_ok : ∀ p : PX, OkP K p
  | .no => fun ρ o h Z G H σ Q rep hZ gh k => by
    unfold evP at h
    cases h
    exact k H G (Grow.refl gh)
  | .at e => fun ρ o h Z G H σ Q rep hZ gh k => by
    unfold evP at h
    obtain ⟨p, e1, h⟩ := Option.bind_eq_some_iff.mp h
    refine (ev_ok e).step e1 rep hZ gh fun v H1 G1 g1 r1 => ?_
    dsimp only [Rs.pb] at r1
    split at h
    · rename_i i ed
      rw [ed] at r1
      cases r1
      cases h
      exact ⟨_, rfl, k H1 G1 g1⟩
    · cases h
theorem evQ_ok : ∀ t : QX, OkQ K t
  | .no => fun ρ b h Z G H σ Q rep hZ gh k => by
    unfold evQ at h
    cases h
    exact k H G (Grow.refl gh)
  | .at t => fun ρ b h Z G H σ Q rep hZ gh k => by
    unfold evQ at h
    exact evT_ok t ρ b h Z G H σ Q rep hZ gh k
theorem evT_ok : ∀ t : TX, OkT K t
  | .val e => fun ρ b h Z G H σ Q rep hZ gh k => by
    unfold evT at h
    obtain ⟨p, e1, h⟩ := Option.bind_eq_some_iff.mp h
    refine (ev_ok e).step e1 rep hZ gh fun v H1 G1 g1 r1 => ?_
    dsimp only [Rs.pb] at r1
    split at h
    · rename_i i ed
      rw [ed] at r1
      cases r1
      cases h
      exact ⟨_, rfl, k H1 G1 g1⟩
    · cases h
  | .and a b => fun ρ c h Z G H σ Q rep hZ gh k => by
    unfold evT at h
    obtain ⟨p, e1, h⟩ := Option.bind_eq_some_iff.mp h
    refine evT_ok a ρ p e1 Z G H σ _ rep hZ gh fun H1 G1 g1 => ?_
    cases p with
    | true =>
      rw [if_pos rfl]
      rw [if_pos rfl] at h
      exact evT_ok b ρ c h Z G1 H1 σ Q (rep.same g1.sG) (hZ.grow g1) g1.gh fun H2 G2 g2 => k H2 G2 (g1.trans g2)
    | false =>
      rw [if_neg Bool.false_ne_true]
      rw [if_neg Bool.false_ne_true] at h
      cases h
      exact k H1 G1 g1
  | .or a b => fun ρ c h Z G H σ Q rep hZ gh k => by
    unfold evT at h
    obtain ⟨p, e1, h⟩ := Option.bind_eq_some_iff.mp h
    refine evT_ok a ρ p e1 Z G H σ _ rep hZ gh fun H1 G1 g1 => ?_
    cases p with
    | false =>
      rw [if_neg Bool.false_ne_true]
      rw [if_neg Bool.false_ne_true] at h
      exact evT_ok b ρ c h Z G1 H1 σ Q (rep.same g1.sG) (hZ.grow g1) g1.gh fun H2 G2 g2 => k H2 G2 (g1.trans g2)
    | true =>
      rw [if_pos rfl]
      rw [if_pos rfl] at h
      cases h
      exact k H1 G1 g1
  | .not a => fun ρ c h Z G H σ Q rep hZ gh k => by
    unfold evT at h
    obtain ⟨p, e1, rfl⟩ := Option.map_eq_some_iff.mp h
    exact evT_ok a ρ p e1 Z G H σ _ rep hZ gh fun H1 G1 g1 => k H1 G1 g1
end
end Un

set_option maxRecDepth 100000
set_option maxHeartbeats 4000000
namespace Un
open PySem PySem.Spec PyProof.Rows L2
/-! ### texts of statements -/
inductive AugOp where
  | add | sub
mutual
inductive ST where
  | asg (tg : TgX) (e : EX)
  | par (i j : Nat) (a b : EX)
  | aug (i : Nat) (o : AugOp) (e : EX)
  | drop (e : EX)
  | ret (e : EX)
  | retN
  | ifs (c : TX) (a b : STs)
  | for (k : SK) (src : EXs) (tg : TgX) (b : STs)
  | whl (c : TX) (fuel : Nat) (b : STs)
  | brk
  | cnt
  | pas
  | app (i : Nat) (e : EX)
  | ext (i : Nat) (e : EX)
  | mapp (o e : EX)
  | set (i : Nat) (ix e : EX)
  | set2 (a b : EX) (i : Nat) (ix : EX) (j : Nat) (jx : EX)
  | popA (j i : Nat)
  | popI (j i : Nat) (ix : EX)
inductive STs where
  | nil
  | one (s : ST)
  | cons (s : ST) (ss : STs)
end
section
variable (K : PySem.W.Frag)
def AugOp.ip : AugOp → TIp
  | .add => ipI fun i j => i + j
  | .sub => ipI fun i j => i - j
mutual
def ts : ST → TS
  | .asg tg e => tAsg (te K e) (tgG K tg)
  | .par i j a b => tPar i j (tas K (.cons a (.cons b .nil)))
  | .aug i o e => tAug i (te K e) o.ip
  | .drop e => tDrop (te K e)
  | .ret e => tRet (te K e)
  | .retN => tRetN
  | .ifs c a b => tIfS (tt K c) (tss a) (tss b)
  | .for k src tg b => tFor (tiS K k (tas K src)) (tgG K tg) (tss b)
  | .whl c _ b => tWhile (tt K c) (tss b)
  | .brk => tBreak
  | .cnt => tCont
  | .pas => tNext
  | .app i e => tDrop (tBM K "list" rAppend (tVar i) (tCons (te K e) tNil))
  | .ext i e => tDrop (tBM K "list" rExtend (tVar i) (tCons (te K e) tNil))
  | .mapp o e => tDrop (tBM K "list" rAppend (te K o) (tCons (te K e) tNil))
  | .set i ix e => tAsg (te K e) (gSub (tVar i) (te K ix) rSetL)
  | .set2 a b i ix j jx => tAsg (tTup (tas K (.cons a (.cons b .nil)))) (gTup K 2 (gCons (gSub (tVar i) (te K ix) rSetL) (gCons (gSub (tVar j) (te K jx) rSetL) gNil)))
  | .popA j i => tAsg (tBM0 K "list" rPop (tVar i)) (gName j)
  | .popI j i ix => tAsg (tBM K "list" rPopAt (tVar i) (tCons (te K ix) tNil)) (gName j)
def tss : STs → TS
  | .nil => tNext
  | .one s => ts s
  | .cons s ss => tSeq (ts s) (tss ss)
end
end
/-! ### names that are read -/
mutual
def vE : EX → List Nat
  | .var i => [i]
  | .cst _ => []
  | .dic0 => []
  | .bin _ a b => vE a ++ vE b
  | .un _ a => vE a
  | .andE a b => vE a ++ vE b
  | .orE a b => vE a ++ vE b
  | .notE a => vE a
  | .ife c a b => vT c ++ (vE a ++ vE b)
  | .chn _ _ a b c => vE a ++ (vE b ++ vE c)
  | .tup es => vEs es
  | .lst es => vEs es
  | .sl a lo hi => vE a ++ (vP lo ++ vP hi)
  | .rev a => vE a
  | .cb _ es => vEs es
  | .lrg1 a => vE a
  | .lrg2 a b => vE a ++ vE b
  | .lzip a b => vE a ++ vE b
  | .idx a b => vE a ++ vE b
  | .call _ es => vEs es
  | .kcall _ _ _ es => vEs es
  | .lc _ src _ t e _ => vEs src ++ (vQ t ++ vE e)
  | .lc2 _ src _ t _ src1 _ t1 e _ _ => vEs src ++ (vQ t ++ (vEs src1 ++ (vQ t1 ++ vE e)))
def vEs : EXs → List Nat
  | .nil => []
  | .cons e es => vE e ++ vEs es
def vP : PX → List Nat
  | .no => []
  | .at e => vE e
def vQ : QX → List Nat
  | .no => []
  | .at t => vT t
def vT : TX → List Nat
  | .val e => vE e
  | .and a b => vT a ++ vT b
  | .or a b => vT a ++ vT b
  | .not a => vT a
end
/-! ### the names' values: frozen, or a list of one's own -/
inductive En where
  | no
  | fz (p : PB)
  | ow (ds : List PyData) (n : Bool)
  | od (p : PB)
abbrev RhoS := List En
def vwAt (M : List Nat) (i : Nat) : En → Option PB
  | .no => none
  | .fz p => some p
  | .ow ds n => if M.contains i then some (.list ds, n) else none
  | .od p => some p
def view (M : List Nat) (ρ : RhoS) : Rho := ρ.mapIdx fun i e => vwAt M i e
def frAt (M : List Nat) (i : Nat) : En → En
  | .ow ds n => if M.contains i then .fz (.list ds, n) else .ow ds n
  | e => e
def frz (M : List Nat) (ρ : RhoS) : RhoS := ρ.mapIdx fun i e => frAt M i e
inductive Ot where
  | nx (ρ : RhoS)
  | ct (ρ : RhoS)
  | br (ρ : RhoS)
  | rt (p : PB)
def toEn (r : Rs) : En := match r.t, r.d with
  | true, .list ds => .ow ds r.n
  | _, _ => .fz r.pb
def setTs : List Nat → List PyData → Bool → RhoS → Option RhoS
  | [], [], _, ρ => some ρ
  | i :: is, d :: ds, n, ρ => setTs is ds n (ρ.set i (.fz (d, fl n d)))
  | _, _, _, _ => none
def bindS : TgX → PB → RhoS → Option RhoS
  | .nm i, p, ρ => some (ρ.set i (.fz p))
  | .tp is, (.tuple ds, n), ρ => setTs is ds n ρ
  | _, _, _ => none
def exA : TgX → Rs → RhoS → Option RhoS
  | .nm i, r, ρ => some (ρ.set i (toEn r))
  | .tp is, r, ρ => bindS (.tp is) r.pb ρ
def evS (e : EX) (ρ : RhoS) : Option (Rs × RhoS) := (ev e (view (vE e) ρ)).map fun r => (r, if isSc r.d then ρ else frz (vE e) ρ)
def isRng : SK → Bool
  | .rng1 => true
  | .rng2 => true
  | _ => false
def forGo (tg : TgX) (ex : RhoS → Option Ot) : List PB → RhoS → Option Ot
  | [], ρ => some (.nx ρ)
  | x :: xs, ρ => (bindS tg x ρ).bind fun ρ1 => (ex ρ1).bind fun o => match o with
    | .nx ρ2 => forGo tg ex xs ρ2
    | .ct ρ2 => forGo tg ex xs ρ2
    | .br ρ2 => some (.nx ρ2)
    | .rt p => some (.rt p)
def whlGo (c : RhoS → Option Bool) (ex : RhoS → Option Ot) : Nat → RhoS → Option Ot
  | 0, _ => none
  | m + 1, ρ => (c ρ).bind fun b => if b then (ex ρ).bind fun o => match o with
    | .nx ρ2 => whlGo c ex m ρ2
    | .ct ρ2 => whlGo c ex m ρ2
    | .br ρ2 => some (.nx ρ2)
    | .rt p => some (.rt p) else some (.nx ρ)
def AugOp.f : AugOp → Int → Int → Int
  | .add => fun i j => i + j
  | .sub => fun i j => i - j
def setI (ρ : RhoS) (i : Nat) (k : PyData) (p : PB) : Option RhoS := match ρ[i]?, k with
  | some (.ow ds n), .int c => (ixN ds.length c).map fun j => ρ.set i (.ow (ds.set j p.1) (n && p.2))
  | _, _ => none
mutual
def exec : ST → RhoS → Option Ot
  | .asg tg e, ρ => (evS e ρ).bind fun x => (exA tg x.1 x.2).map .nx
  | .par i j a b, ρ => (evs (.cons a (.cons b .nil)) (view (vEs (.cons a (.cons b .nil))) ρ)).bind fun ps => match ps with
    | [p, q] => some (.nx (((if isSc p.1 && isSc q.1 then ρ else frz (vEs (.cons a (.cons b .nil))) ρ).set i (.fz p)).set j (.fz q)))
    | _ => none
  | .aug i o e, ρ => (evS e ρ).bind fun x => match ρ[i]?, x.1.d with
    | some (.fz (.int a, _)), .int b => some (.nx (ρ.set i (.fz (.int (o.f a b), true))))
    | _, _ => none
  | .drop e, ρ => (evS e ρ).map fun x => .nx x.2
  | .ret e, ρ => (ev e (view (vE e) ρ)).map fun r => .rt r.pb
  | .retN, _ => some (.rt (.none, true))
  | .ifs c a b, ρ => (evT c (view (vT c) ρ)).bind fun k => if k then execs a ρ else execs b ρ
  | .for k src tg b, ρ => (evs src (view (vEs src) ρ)).bind fun ps => (srcF k ps).bind fun items => forGo tg (fun ρ' => execs b ρ') items (if isRng k then ρ else frz (vEs src) ρ)
  | .whl c m b, ρ => whlGo (fun ρ' => evT c (view (vT c) ρ')) (fun ρ' => execs b ρ') m ρ
  | .brk, ρ => some (.br ρ)
  | .cnt, ρ => some (.ct ρ)
  | .pas, ρ => some (.nx ρ)
  | .app i e, ρ => (evS e ρ).bind fun x => match x.2[i]? with
    | some (.ow ds n) => if ds.length < 100000 then some (.nx (x.2.set i (.ow (ds ++ [x.1.pb.1]) (n && x.1.pb.2)))) else none
    | _ => none
  | .ext i e, ρ => (evS e ρ).bind fun x => match x.2[i]?, x.1.pb with
    | some (.ow ds n), (.list es, m) => if ds.length + es.length < 100000 then some (.nx (x.2.set i (.ow (ds ++ es) (n && m)))) else none
    | _, _ => none
  | .mapp _ _, _ => none
  | .set i ix e, ρ => (evS e ρ).bind fun x => (evS ix x.2).bind fun y => (setI x.2 i y.1.d x.1.pb).map .nx
  | .set2 a b i ix j jx, ρ => (evs (.cons a (.cons b .nil)) (view (vEs (.cons a (.cons b .nil))) ρ)).bind fun ps => match ps with
    | [p, q] => if isSc p.1 && isSc q.1 then (evS ix ρ).bind fun y => (setI ρ i y.1.d p).bind fun ρ1 => (evS jx ρ1).bind fun z => (setI ρ1 j z.1.d q).map .nx else none
    | _ => none
  | .popA j i, ρ => match ρ[i]? with
    | some (.ow ds n) => (ds[ds.length - 1]?).map fun d => .nx ((ρ.set i (.ow ds.dropLast n)).set j (.fz (d, fl n d)))
    | _ => none
  | .popI j i ix, ρ => (evS ix ρ).bind fun y => match ρ[i]?, y.1.d with
    | some (.ow ds n), .int c => if -(2 ^ 63) ≤ c ∧ c < 2 ^ 63 then (seqIndex? c ds.length).bind fun k => (ds[k]?).map fun d => .nx ((ρ.set i (.ow (ds.eraseIdx k) n)).set j (.fz (d, fl n d))) else none
    | _, _ => none
def execs : STs → RhoS → Option Ot
  | .nil, ρ => some (.nx ρ)
  | .one s, ρ => exec s ρ
  | .cons s ss, ρ => (exec s ρ).bind fun o => match o with
    | .nx ρ1 => execs ss ρ1
    | o => some o
end
/-- what a def gives: np parameters, ns names -/
def runZ (np ns : Nat) (b : STs) : FnZ := fun args => if args.length = np then (execs b ((args.map fun d => .fz (d, nol d)) ++ List.replicate (ns - np) .no)).bind fun o => match o with
  | .rt p => some p
  | .nx _ => some (.none, true)
  | _ => none else none
end Un

set_option maxRecDepth 100000
set_option maxHeartbeats 4000000
namespace Un
open PySem PySem.Spec PyProof.Rows L2
def Zn (H0 : Hp) : Addr → Prop := fun a => H0 a = none
structure RepS (G0 H0 F H : Hp) (σ : L2.St) (ρ : RhoS) : Prop where
  gr : Grow G0 H0 F H
  len : σ.length = ρ.length
  fz : ∀ (i : Nat) (p : PB), ρ[i]? = some (.fz p) → ∃ v, σ[i]? = some (some v) ∧ Rp (zz (Zn H0) p.2) F v p.1
  ow : ∀ (i : Nat) (ds : List PyData) (n : Bool), ρ[i]? = some (.ow ds n) → ∃ l xs, σ[i]? = some (some (.ref l)) ∧ H0 l = none ∧ F l = none ∧ H l = some (.lst xs) ∧ RpA (zz (Zn H0) n) F xs ds
  dis : ∀ (i j : Nat) (l : Addr) (ds es : List PyData) (n m : Bool), ρ[i]? = some (.ow ds n) → ρ[j]? = some (.ow es m) → σ[i]? = some (some (.ref l)) → σ[j]? = some (some (.ref l)) → i = j
  od : ∀ (i : Nat) (p : PB), ρ[i]? = some (.od p) → ∃ v, σ[i]? = some (some v) ∧ Rp (zz (Zn H0) p.2) G0 v p.1
section
variable {G0 H0 F H : Hp} {σ : L2.St} {ρ : RhoS}
theorem RepS.fresh (h : RepS G0 H0 F H σ ρ) : FreshIn (Zn H0) H := fun a e => h.gr.sH.free e
theorem RepS.keep (h : RepS G0 H0 F H σ ρ) {H' : Hp} (s : Same H H') : RepS G0 H0 F H' σ ρ :=
  ⟨⟨h.gr.sH.trans s, h.gr.sG, h.gr.gh.trans s, h.gr.nw⟩, h.len, h.fz, fun i ds n e => by
    obtain ⟨l, xs, a, b, c, d, r⟩ := h.ow i ds n e
    exact ⟨l, xs, a, b, c, s _ _ d, r⟩, h.dis, h.od⟩
/-- F may grow by what is new -/
theorem RepS.more (h : RepS G0 H0 F H σ ρ) {F' H' : Hp} (g : Grow F H F' H') : RepS G0 H0 F' H' σ ρ :=
  ⟨h.gr.trans g, h.len, fun i p e => by
    obtain ⟨v, a, r⟩ := h.fz i p e
    exact ⟨v, a, r.same g.sG⟩, fun i ds n e => by
    obtain ⟨l, xs, a, b, c, d, r⟩ := h.ow i ds n e
    exact ⟨l, xs, a, b, g.nw l (by rw [d]; exact fun z => nomatch z) c, g.sH _ _ d, r.same g.sG⟩, h.dis, h.od⟩
theorem RepS.setFz (h : RepS G0 H0 F H σ ρ) {i : Nat} {v : V} {p : PB} (r : Rp (zz (Zn H0) p.2) F v p.1) : RepS G0 H0 F H (σ.set i (some v)) (ρ.set i (.fz p)) := by
  refine ⟨h.gr, by rw [List.length_set, List.length_set]; exact h.len, fun j q e => ?_, fun j ds n e => ?_, fun j k l ds es n m e1 e2 e3 e4 => ?_, fun j q e => ?_⟩
  · rw [List.getElem?_set] at e ⊢
    by_cases c : i = j
    · subst c
      rw [if_pos rfl] at e ⊢
      split at e
      · rename_i hi
        rw [h.len, if_pos hi]
        cases e
        exact ⟨v, rfl, r⟩
      · cases e
    · rw [if_neg c] at e ⊢
      exact h.fz j q e
  · rw [List.getElem?_set] at e ⊢
    by_cases c : i = j
    · rw [if_pos c] at e
      split at e <;> cases e
    · rw [if_neg c] at e ⊢
      exact h.ow j ds n e
  · rw [List.getElem?_set] at e1 e2 e3 e4
    by_cases c : i = j
    · rw [if_pos c] at e1
      split at e1 <;> cases e1
    · by_cases c2 : i = k
      · rw [if_pos c2] at e2
        split at e2 <;> cases e2
      · rw [if_neg c] at e1 e3
        rw [if_neg c2] at e2 e4
        exact h.dis j k l ds es n m e1 e2 e3 e4
  · rw [List.getElem?_set] at e ⊢
    by_cases c : i = j
    · rw [if_pos c] at e
      split at e <;> cases e
    · rw [if_neg c] at e ⊢
      exact h.od j q e
theorem RepS.setOw (h : RepS G0 H0 F H σ ρ) {i : Nat} {p : Addr} {xs : List V} {ds : List PyData} {n : Bool} (h0 : H0 p = none) (hF : F p = none) (hp : H p = some (.lst xs)) (r : RpA (zz (Zn H0) n) F xs ds)
    (ap : ∀ (j : Nat) (es : List PyData) (m : Bool), ρ[j]? = some (.ow es m) → σ[j]? ≠ some (some (.ref p))) : RepS G0 H0 F H (σ.set i (some (.ref p))) (ρ.set i (.ow ds n)) := by
  refine ⟨h.gr, by rw [List.length_set, List.length_set]; exact h.len, fun j q e => ?_, fun j es m e => ?_, fun j k l es es' m m' e1 e2 e3 e4 => ?_, fun j q e => ?_⟩
  · rw [List.getElem?_set] at e ⊢
    by_cases c : i = j
    · rw [if_pos c] at e
      split at e <;> cases e
    · rw [if_neg c] at e ⊢
      exact h.fz j q e
  · rw [List.getElem?_set] at e ⊢
    by_cases c : i = j
    · subst c
      rw [if_pos rfl] at e ⊢
      split at e
      · rename_i hi
        rw [h.len, if_pos hi]
        cases e
        exact ⟨p, xs, rfl, h0, hF, hp, r⟩
      · cases e
    · rw [if_neg c] at e ⊢
      exact h.ow j es m e
  · rw [List.getElem?_set] at e1 e2 e3 e4
    by_cases c : i = j
    · rw [if_pos c] at e1 e3
      by_cases c2 : i = k
      · rw [← c, ← c2]
      · rw [if_neg c2] at e2 e4
        exfalso
        split at e3
        · cases e3
          exact ap k es' m' e2 e4
        · cases e3
    · rw [if_neg c] at e1 e3
      by_cases c2 : i = k
      · rw [if_pos c2] at e2 e4
        exfalso
        split at e4
        · cases e4
          exact ap j es m e1 e3
        · cases e4
      · rw [if_neg c2] at e2 e4
        exact h.dis j k l es es' m m' e1 e2 e3 e4
  · rw [List.getElem?_set] at e ⊢
    by_cases c : i = j
    · rw [if_pos c] at e
      split at e <;> cases e
    · rw [if_neg c] at e ⊢
      exact h.od j q e
/-- a list of one's own changes -/
theorem RepS.mutate (h : RepS G0 H0 F H σ ρ) {i : Nat} {l : Addr} {ds es : List PyData} {xs : List V} {n m : Bool} (e : ρ[i]? = some (.ow ds n)) (el : σ[i]? = some (some (.ref l))) (r : RpA (zz (Zn H0) m) F xs es) :
    RepS G0 H0 F (upd H l (.lst xs)) σ (ρ.set i (.ow es m)) := by
  obtain ⟨l', ys, a1, a2, a3, a4, _⟩ := h.ow i ds n e
  rw [el] at a1
  cases a1
  have hi : i < ρ.length := (List.getElem?_eq_some_iff.mp e).1
  refine ⟨h.gr.mutH a2 a3, by rw [List.length_set]; exact h.len, fun j q ej => ?_, fun j es' m' ej => ?_, fun j k l2 e1' e2' m1 m2 e1 e2 e3 e4 => ?_, fun j q ej => ?_⟩
  · rw [List.getElem?_set] at ej
    by_cases c : i = j
    · rw [if_pos c] at ej
      split at ej <;> cases ej
    · rw [if_neg c] at ej
      exact h.fz j q ej
  · rw [List.getElem?_set] at ej
    by_cases c : i = j
    · subst c
      rw [if_pos rfl, if_pos hi] at ej
      cases ej
      exact ⟨l, xs, el, a2, a3, upd_same, r⟩
    · rw [if_neg c] at ej
      obtain ⟨l2, zs, b1, b2, b3, b4, b5⟩ := h.ow j es' m' ej
      refine ⟨l2, zs, b1, b2, b3, ?_, b5⟩
      rw [upd_ne fun z => c (h.dis i j l ds es' n m' e ej el (by rw [b1, z]))]
      exact b4
  · have old : ∀ (j : Nat) (es : List PyData) (m' : Bool), (ρ.set i (.ow es m))[j]? = some (.ow es m') → True := fun _ _ _ _ => trivial
    have back : ∀ (j : Nat) (es' : List PyData) (m' : Bool), (ρ.set i (.ow es m))[j]? = some (.ow es' m') → ∃ es2 m2, ρ[j]? = some (.ow es2 m2) := fun j es' m' ej => by
      rw [List.getElem?_set] at ej
      by_cases c : i = j
      · subst c
        exact ⟨ds, n, e⟩
      · rw [if_neg c] at ej
        exact ⟨es', m', ej⟩
    obtain ⟨x1, y1, z1⟩ := back j _ _ e1
    obtain ⟨x2, y2, z2⟩ := back k _ _ e2
    exact h.dis j k l2 x1 x2 y1 y2 z1 z2 e3 e4
  · rw [List.getElem?_set] at ej
    by_cases c : i = j
    · rw [if_pos c] at ej
      split at ej <;> cases ej
    · rw [if_neg c] at ej
      exact h.od j q ej
/-! ### seen from an expression -/
theorem RepS.opened (h : RepS G0 H0 F H σ ρ) (M : List Nat) : ∃ G, Same F G ∧ Same G H ∧ RepE (Zn H0) G σ (view M ρ) ∧ ∀ b, G b ≠ none → F b ≠ none ∨ ∃ i ds n, i ∈ M ∧ ρ[i]? = some (.ow ds n) ∧ σ[i]? = some (some (.ref b)) := by
  classical
  refine ⟨fun b => if ∃ i ds n, i ∈ M ∧ ρ[i]? = some (.ow ds n) ∧ σ[i]? = some (some (.ref b)) then H b else F b, ?_, ?_, ?_, ?_⟩
  · intro b o e
    have nc : ¬ ∃ i ds n, i ∈ M ∧ ρ[i]? = some (.ow ds n) ∧ σ[i]? = some (some (.ref b)) := by
      rintro ⟨i, ds, n, _, e1, e2⟩
      obtain ⟨l, xs, a1, _, a3, _⟩ := h.ow i ds n e1
      rw [e2] at a1
      cases a1
      rw [a3] at e
      cases e
    show (if _ then H b else F b) = _
    rw [if_neg nc]
    exact e
  · intro b o e
    have e' : (if ∃ i ds n, i ∈ M ∧ ρ[i]? = some (.ow ds n) ∧ σ[i]? = some (some (.ref b)) then H b else F b) = some o := e
    split at e'
    · exact e'
    · exact h.gr.gh b o e'
  · refine ⟨by unfold view; rw [List.length_mapIdx]; exact h.len, fun i p e => ?_⟩
    unfold view at e
    rw [List.getElem?_mapIdx] at e
    obtain ⟨en, e1, e2⟩ := Option.map_eq_some_iff.mp e
    cases en with
    | no => cases e2
    | fz q =>
      cases e2
      obtain ⟨v, a, r⟩ := h.fz i p e1
      refine ⟨v, a, r.same fun b o eb => ?_⟩
      have nc : ¬ ∃ i ds n, i ∈ M ∧ ρ[i]? = some (.ow ds n) ∧ σ[i]? = some (some (.ref b)) := by
        rintro ⟨i, ds, n, _, e1, e2⟩
        obtain ⟨l, xs, a1, _, a3, _⟩ := h.ow i ds n e1
        rw [e2] at a1
        cases a1
        rw [a3] at eb
        cases eb
      show (if _ then H b else F b) = _
      rw [if_neg nc]
      exact eb
    | ow ds n =>
      have e2 : (if M.contains i = true then some ((PyData.list ds, n) : PB) else none) = some p := e2
      split at e2
      · rename_i hm
        cases e2
        obtain ⟨l, xs, a1, a2, a3, a4, r⟩ := h.ow i ds n e1
        refine ⟨_, a1, .lst (xs := xs) ?_ (fun _ => a2) (r.same fun b o eb => ?_)⟩
        · show (if _ then H l else F l) = _
          rw [if_pos ⟨i, ds, n, by simpa using hm, e1, a1⟩]
          exact a4
        · have nc : ¬ ∃ i ds n, i ∈ M ∧ ρ[i]? = some (.ow ds n) ∧ σ[i]? = some (some (.ref b)) := by
            rintro ⟨i, ds, n, _, e1, e2⟩
            obtain ⟨l, xs, a1, _, a3, _⟩ := h.ow i ds n e1
            rw [e2] at a1
            cases a1
            rw [a3] at eb
            cases eb
          show (if _ then H b else F b) = _
          rw [if_neg nc]
          exact eb
      · cases e2
    | od q =>
      cases e2
      obtain ⟨v, a, r⟩ := h.od i p e1
      refine ⟨v, a, (r.same h.gr.sG).same fun b o eb => ?_⟩
      have nc : ¬ ∃ i ds n, i ∈ M ∧ ρ[i]? = some (.ow ds n) ∧ σ[i]? = some (some (.ref b)) := by
        rintro ⟨i, ds, n, _, e1, e2⟩
        obtain ⟨l, xs, a1, _, a3, _⟩ := h.ow i ds n e1
        rw [e2] at a1
        cases a1
        rw [a3] at eb
        cases eb
      show (if _ then H b else F b) = _
      rw [if_neg nc]
      exact eb
  · intro b e
    by_cases c : ∃ i ds n, i ∈ M ∧ ρ[i]? = some (.ow ds n) ∧ σ[i]? = some (some (.ref b))
    · exact .inr c
    · refine .inl ?_
      have e' : (if ∃ i ds n, i ∈ M ∧ ρ[i]? = some (.ow ds n) ∧ σ[i]? = some (some (.ref b)) then H b else F b) ≠ none := e
      rw [if_neg c] at e'
      exact e'
/-- what was seen is frozen -/
theorem RepS.frozen (h : RepS G0 H0 F H σ ρ) {M : List Nat} {G G' H' : Hp} (fg : Same F G) (rep : RepE (Zn H0) G σ (view M ρ)) (own : ∀ b, G b ≠ none → F b ≠ none ∨ ∃ i ds n, i ∈ M ∧ ρ[i]? = some (.ow ds n) ∧ σ[i]? = some (some (.ref b)))
    (g : Grow G H G' H') : RepS G0 H0 G' H' σ (frz M ρ) := by
  have unf : ∀ (i : Nat) (e : En), (frz M ρ)[i]? = some e → ∃ e0, ρ[i]? = some e0 ∧ frAt M i e0 = e := fun i e z => by
    unfold frz at z
    rw [List.getElem?_mapIdx] at z
    obtain ⟨e0, h1, h2⟩ := Option.map_eq_some_iff.mp z
    exact ⟨e0, h1, h2⟩
  have back : ∀ (i : Nat) (ds : List PyData) (n : Bool), (frz M ρ)[i]? = some (.ow ds n) → ρ[i]? = some (.ow ds n) ∧ i ∉ M := fun i ds n z => by
    obtain ⟨e0, h1, h2⟩ := unf i _ z
    cases e0 with
    | no => cases h2
    | fz p => cases h2
    | ow ds' n' =>
      have h2 : (if M.contains i = true then En.fz (.list ds', n') else En.ow ds' n') = En.ow ds n := h2
      split at h2
      · cases h2
      · rename_i hm
        cases h2
        exact ⟨h1, by simpa using hm⟩
    | od p => cases h2
  refine ⟨⟨h.gr.sH.trans g.sH, (h.gr.sG.trans fg).trans g.sG, g.gh, fun b e1 e2 => ?_⟩, by unfold frz; rw [List.length_mapIdx]; exact h.len, fun i p e => ?_, fun i ds n e => ?_, fun i j l ds es n m e1 e2 e3 e4 => ?_, fun i p e => ?_⟩
  · refine g.nw b ?_ ?_
    · intro z
      exact e1 (h.gr.sH.free z)
    · have fb := h.gr.nw b e1 e2
      cases q : G b with
      | none => rfl
      | some o =>
        rcases own b (by rw [q]; exact fun z => nomatch z) with z | ⟨i, ds, n, _, k1, k2⟩
        · exact absurd fb z
        · obtain ⟨l, xs, a1, a2, _⟩ := h.ow i ds n k1
          rw [k2] at a1
          cases a1
          exact absurd a2 e1
  · obtain ⟨e0, h1, h2⟩ := unf i _ e
    cases e0 with
    | no => cases h2
    | fz q =>
      cases h2
      obtain ⟨v, a, r⟩ := h.fz i p h1
      exact ⟨v, a, r.same (fg.trans g.sG)⟩
    | ow ds n =>
      have h2 : (if M.contains i = true then En.fz (.list ds, n) else En.ow ds n) = En.fz p := h2
      split at h2
      · rename_i hm
        cases h2
        obtain ⟨v, a, r⟩ := rep.at_ i (.list ds, n) (by
          unfold view
          rw [List.getElem?_mapIdx, h1]
          show some (if M.contains i = true then some ((PyData.list ds, n) : PB) else none) = _
          rw [if_pos hm])
        exact ⟨v, a, r.same g.sG⟩
      · cases h2
    | od q => cases h2
  · obtain ⟨h1, hm⟩ := back i ds n e
    obtain ⟨l, xs, a1, a2, a3, a4, r⟩ := h.ow i ds n h1
    refine ⟨l, xs, a1, a2, g.nw l (by rw [a4]; exact fun z => nomatch z) ?_, g.sH _ _ a4, r.same (fg.trans g.sG)⟩
    cases q : G l with
    | none => rfl
    | some o =>
      rcases own l (by rw [q]; exact fun z => nomatch z) with z | ⟨j, ds', n', hj, k1, k2⟩
      · exact absurd a3 z
      · exact absurd (h.dis i j l ds ds' n n' h1 k1 a1 k2 ▸ hj) hm
  · obtain ⟨h1, _⟩ := back i ds n e1
    obtain ⟨h2, _⟩ := back j es m e2
    exact h.dis i j l ds es n m h1 h2 e3 e4
  · obtain ⟨e0, h1, h2⟩ := unf i _ e
    cases e0 with
    | no => cases h2
    | fz q => cases h2
    | ow ds n =>
      have h2 : (if M.contains i = true then En.fz (.list ds, n) else En.ow ds n) = En.od p := h2
      split at h2 <;> cases h2
    | od q =>
      cases h2
      exact h.od i _ h1
/-- what an expression gives, in a statement -/
def ERS (H0 : Hp) (σ : L2.St) (ρ : RhoS) (v : V) (H' F' : Hp) (r : Rs) : Prop :=
  match r.t with
  | false => Rp (zz (Zn H0) r.n) F' v r.d
  | true => ∃ p xs ds, v = .ref p ∧ r.d = .list ds ∧ H0 p = none ∧ H' p = some (.lst xs) ∧ F' p = none ∧ RpA (zz (Zn H0) r.n) F' xs ds ∧ ∀ (j : Nat) (es : List PyData) (m : Bool), ρ[j]? = some (.ow es m) → σ[j]? ≠ some (some (.ref p))
theorem evS_ok {K : PySem.W.Frag} {e : EX} {r : Rs} {ρ1 : RhoS} {Q : VK} (ee : evS e ρ = some (r, ρ1)) (h : RepS G0 H0 F H σ ρ)
    (q : ∀ v F' H', Same F F' → RepS G0 H0 F' H' σ ρ1 → Same H H' → ERS H0 σ ρ1 v H' F' r → Q v H') : te K e σ H Q := by
  unfold evS at ee
  obtain ⟨r', e1, e2⟩ := Option.map_eq_some_iff.mp ee
  cases e2
  obtain ⟨G, fg, gh, rep, own⟩ := h.opened (vE e)
  refine ev_ok e _ r e1 (Zn H0) G H σ Q rep h.fresh gh fun v H' G' g er => ?_
  cases hs : isSc r.d with
  | true =>
    have hR : RepS G0 H0 F H' σ ρ := h.keep g.sH
    have hρ : (if isSc r.d = true then ρ else frz (vE e) ρ) = ρ := if_pos hs
    rw [hρ] at q
    refine q v F H' (Same.refl _) hR g.sH ?_
    unfold ER at er
    unfold ERS
    cases ht : r.t with
    | false =>
      rw [ht] at er
      dsimp only at er ⊢
      rw [sc_rp er hs]
      exact rp_sc hs
    | true =>
      rw [ht] at er
      obtain ⟨p, xs, ds, _, e2, _⟩ := er
      rw [e2] at hs
      cases hs
  | false =>
    have hR : RepS G0 H0 G' H' σ (frz (vE e) ρ) := h.frozen fg rep own g
    have hρ : (if isSc r.d = true then ρ else frz (vE e) ρ) = frz (vE e) ρ := if_neg (by rw [hs]; decide)
    rw [hρ] at q
    refine q v G' H' (fg.trans g.sG) hR g.sH ?_
    unfold ER at er
    unfold ERS
    cases ht : r.t with
    | false =>
      rw [ht] at er
      exact er
    | true =>
      rw [ht] at er
      obtain ⟨p, xs, ds, e1, e2, e3, e4, e5, e6⟩ := er
      refine ⟨p, xs, ds, e1, e2, h.gr.sH.free e3, e4, e5, e6, fun j es m ej z => ?_⟩
      have : ρ[j]? = some (.ow es m) := by
        unfold frz at ej
        rw [List.getElem?_mapIdx] at ej
        obtain ⟨e0, h1, h2⟩ := Option.map_eq_some_iff.mp ej
        cases e0 with
        | no => cases h2
        | fz p => cases h2
        | ow ds' n' =>
          have h2 : (if (vE e).contains j = true then En.fz (.list ds', n') else En.ow ds' n') = En.ow es m := h2
          split at h2
          · cases h2
          · cases h2
            exact h1
        | od p => cases h2
      obtain ⟨l, ys, a1, _, _, a4, _⟩ := h.ow j es m this
      rw [z] at a1
      cases a1
      rw [e3] at a4
      cases a4
end
end Un

set_option maxRecDepth 100000
set_option maxHeartbeats 4000000
namespace Un
open PySem PySem.Spec PyProof.Rows L2
def PostO (D : Ends) (G0 H0 F : Hp) : Ot → Prop
  | .nx ρ => ∀ F' H' σ', Same F F' → RepS G0 H0 F' H' σ' ρ → D.nx σ' H'
  | .ct ρ => ∀ F' H' σ', Same F F' → RepS G0 H0 F' H' σ' ρ → D.ct σ' H'
  | .br ρ => ∀ F' H' σ', Same F F' → RepS G0 H0 F' H' σ' ρ → D.bk σ' H'
  | .rt p => ∀ v F' H', Grow G0 H0 F' H' → Rp (zz (Zn H0) p.2) F' v p.1 → D.rt v H'
section
variable {K : PySem.W.Frag} {G0 H0 F H : Hp} {σ : L2.St} {ρ : RhoS}
theorem PostO.mono {D : Ends} {F1 : Hp} {o : Ot} (s : Same F F1) (h : PostO D G0 H0 F o) : PostO D G0 H0 F1 o := by
  cases o with
  | nx ρ => exact fun F' H' σ' s2 r => h F' H' σ' (s.trans s2) r
  | ct ρ => exact fun F' H' σ' s2 r => h F' H' σ' (s.trans s2) r
  | br ρ => exact fun F' H' σ' s2 r => h F' H' σ' (s.trans s2) r
  | rt p => exact h
theorem ERS.val {r : Rs} {ρ : RhoS} {v : V} {H' F' : Hp} (R : RepS G0 H0 F' H' σ ρ) (er : ERS H0 σ ρ v H' F' r) : ∃ F2, Same F' F2 ∧ RepS G0 H0 F2 H' σ ρ ∧ Rp (zz (Zn H0) r.pb.2) F2 v r.pb.1 := by
  unfold ERS at er
  obtain ⟨d, n, t⟩ := r
  cases t with
  | false => exact ⟨F', Same.refl _, R, Rp.fl er⟩
  | true =>
    obtain ⟨p, xs, ds, e1, e2, e3, e4, e5, e6, e7⟩ := er
    dsimp only at e1 e2 e6 ⊢
    subst e1 e2
    refine ⟨upd F' p (.lst xs), same_upd e5, ?_, Rp.fl (.lst upd_same (fun _ => e3) (e6.same (same_upd e5)))⟩
    refine ⟨R.gr.froze e3 e4 e5, R.len, fun i q e => ?_, fun i ds n e => ?_, R.dis, R.od⟩
    · obtain ⟨v, a, r⟩ := R.fz i q e
      exact ⟨v, a, r.same (same_upd e5)⟩
    · obtain ⟨l, ys, a1, a2, a3, a4, r⟩ := R.ow i ds n e
      refine ⟨l, ys, a1, a2, ?_, a4, r.same (same_upd e5)⟩
      rw [upd_ne fun z => e7 i ds n e (by rw [a1, z])]
      exact a3
theorem evTS_ok {c : TX} {b : Bool} {Q : Bool → Hp → Prop} (e : evT c (view (vT c) ρ) = some b) (h : RepS G0 H0 F H σ ρ) (q : ∀ H', Same H H' → RepS G0 H0 F H' σ ρ → Q b H') : tt K c σ H Q := by
  obtain ⟨G, fg, gh, rep, own⟩ := h.opened (vT c)
  exact evT_ok c _ b e (Zn H0) G H σ Q rep h.fresh gh fun H' G' g => q H' g.sH (h.keep g.sH)
theorem evsS_ok {es : EXs} {ps : List PB} {Q : List V → Hp → Prop} (e : evs es (view (vEs es) ρ) = some ps) (h : RepS G0 H0 F H σ ρ)
    (q : ∀ vs F' H', Same F F' → RepS G0 H0 F' H' σ (frz (vEs es) ρ) → Same H H' → RpBs (Zn H0) F' vs ps → Q vs H') : tas K es σ H Q := by
  obtain ⟨G, fg, gh, rep, own⟩ := h.opened (vEs es)
  exact evs_ok es _ ps e (Zn H0) G H σ Q rep h.fresh gh fun vs H' G' g rs => q vs G' H' (fg.trans g.sG) (h.frozen fg rep own g) g.sH rs
theorem evsS_sc {es : EXs} {ps : List PB} {Q : List V → Hp → Prop} (e : evs es (view (vEs es) ρ) = some ps) (h : RepS G0 H0 F H σ ρ)
    (q : ∀ vs G' H', Same H H' → RepS G0 H0 F H' σ ρ → RpBs (Zn H0) G' vs ps → Q vs H') : tas K es σ H Q := by
  obtain ⟨G, fg, gh, rep, own⟩ := h.opened (vEs es)
  exact evs_ok es _ ps e (Zn H0) G H σ Q rep h.fresh gh fun vs H' G' g rs => q vs G' H' g.sH (h.keep g.sH) rs
theorem evS_back {e : EX} {r : Rs} {ρ1 : RhoS} {i : Nat} {ds : List PyData} {n : Bool} (ee : evS e ρ = some (r, ρ1)) (h : ρ1[i]? = some (.ow ds n)) : ρ[i]? = some (.ow ds n) := by
  unfold evS at ee
  obtain ⟨r', e1, e2⟩ := Option.map_eq_some_iff.mp ee
  cases e2
  split at h
  · exact h
  · unfold frz at h
    rw [List.getElem?_mapIdx] at h
    obtain ⟨e0, h1, h2⟩ := Option.map_eq_some_iff.mp h
    cases e0 with
    | no => cases h2
    | fz p => cases h2
    | ow ds' n' =>
      have h2 : (if (vE e).contains i = true then En.fz (.list ds', n') else En.ow ds' n') = En.ow ds n := h2
      split at h2
      · cases h2
      · cases h2
        exact h1
    | od p => cases h2
theorem setTs_ok : ∀ {is : List Nat} {xs : List V} {ds : List PyData} {n : Bool} {σ : L2.St} {ρ ρ' : RhoS}, setTs is ds n ρ = some ρ' → RpA (zz (Zn H0) n) F xs ds → RepS G0 H0 F H σ ρ → ∀ Q : L2.St → Hp → Prop,
    (∀ σ', RepS G0 H0 F H σ' ρ' → Q σ' H) → (is.foldr (fun i g => gCons (gName i) g) gNil) xs σ H Q
  | [], _, [], n, σ, ρ, ρ', e, r, h, Q, q => by
    cases r
    cases e
    exact ⟨rfl, q σ h⟩
  | i :: is, _, d :: ds, n, σ, ρ, ρ', e, r, h, Q, q => by
    cases r with
    | cons r t =>
      refine ⟨_, _, rfl, ?_⟩
      show (is.foldr (fun i g => gCons (gName i) g) gNil) _ (σ.set i (some _)) H Q
      exact setTs_ok (is := is) (by unfold setTs at e; exact e) t (h.setFz (p := (d, fl n d)) r.fl) Q q
  | [], _, _ :: _, _, _, _, _, e, _, _, _, _ => by cases e
  | _ :: _, _, [], _, _, _, _, e, _, _, _, _ => by cases e
theorem setTs_len : ∀ {is : List Nat} {ds : List PyData} {n : Bool} {ρ ρ' : RhoS}, setTs is ds n ρ = some ρ' → ds.length = is.length
  | [], [], _, _, _, _ => rfl
  | i :: is, d :: ds, n, ρ, ρ', e => by
    unfold setTs at e
    rw [List.length_cons, List.length_cons, setTs_len e]
  | [], _ :: _, _, _, _, e => by cases e
  | _ :: _, [], _, _, _, e => by cases e
theorem bindS_ok {tg : TgX} {p : PB} {v : V} {ρ' : RhoS} (e : bindS tg p ρ = some ρ') (r : Rp (zz (Zn H0) p.2) F v p.1) (h : RepS G0 H0 F H σ ρ) (Q : L2.St → Hp → Prop)
    (q : ∀ σ', RepS G0 H0 F H σ' ρ' → Q σ' H) : tgG K tg v σ H Q := by
  cases tg with
  | nm i =>
    unfold bindS at e
    cases e
    exact q _ (h.setFz r)
  | tp is =>
    obtain ⟨d, n⟩ := p
    cases d <;> first | (cases e; done) | skip
    rename_i ds
    unfold bindS at e
    cases r with
    | tup ha ra => exact ⟨_, _, rfl, sqT_of (h.gr.gh _ _ ha), by rw [ra.length, setTs_len e], setTs_ok e ra h Q q⟩
theorem exA_ok {tg : TgX} {r : Rs} {v : V} {ρ' : RhoS} (e : exA tg r ρ = some ρ') (h : RepS G0 H0 F H σ ρ) (er : ERS H0 σ ρ v H F r) (Q : L2.St → Hp → Prop)
    (q : ∀ F' σ', Same F F' → RepS G0 H0 F' H σ' ρ' → Q σ' H) : tgG K tg v σ H Q := by
  cases tg with
  | nm i =>
    unfold exA at e
    cases e
    unfold toEn at q
    have er' := er
    unfold ERS at er
    split at q
    · rename_i ds ht hd
      rw [ht] at er
      obtain ⟨p, xs, ds', rfl, e2, e3, e4, e5, e6, e7⟩ := er
      rw [hd] at e2
      cases e2
      exact q F _ (Same.refl _) (h.setOw e3 e5 e4 e6 e7)
    · obtain ⟨F2, s2, R2, rv⟩ := er'.val h
      exact q F2 _ s2 (R2.setFz rv)
  | tp is =>
    unfold exA at e
    obtain ⟨F2, s2, R2, rv⟩ := er.val h
    exact bindS_ok e rv R2 Q fun σ' => q F2 σ' s2
theorem setI_ok {i : Nat} {k : PyData} {p : PB} {v w : V} {ρ' : RhoS} (e : setI ρ i k p = some ρ') (h : RepS G0 H0 F H σ ρ) (r : Rp (zz (Zn H0) p.2) F v p.1) (hw : w = scV k) :
    ∃ l, σ[i]? = some (some (.ref l)) ∧ ∃ xs c j, w = .int c ∧ H l = some (.lst xs) ∧ ixN xs.length c = some j ∧ RepS G0 H0 F (upd H l (.lst (xs.set j v))) σ ρ' := by
  unfold setI at e
  split at e
  · rename_i ds n c h1
    obtain ⟨j, h2, rfl⟩ := Option.map_eq_some_iff.mp e
    obtain ⟨l, xs, a1, a2, a3, a4, ra⟩ := h.ow i ds n h1
    refine ⟨l, a1, xs, c, j, hw, a4, by rw [ra.length]; exact h2, ?_⟩
    exact h.mutate h1 a1 ((ra.mono zz_all (Same.refl _)).set j (r.mono zz_all2 (Same.refl _)))
  · cases e
/-! ### loops -/
theorem src_rng {Z : Addr → Prop} {G : Hp} {k : SK} {ta : TA} {R : It → Hp → Prop} {ps items : List PB} (gh : Same G H) (hta : ∀ Q : List V → Hp → Prop, (∀ vs H1 G1, Grow G H G1 H1 → RpBs Z G1 vs ps → Q vs H1) → ta σ H Q) (e : srcF k ps = some items) (hk : isRng k = true)
    (hR : ∀ J H1, Same H H1 → (∀ G', Feeds Z J G' items) → R J H1) : tiS K k ta σ H R := by
  unfold srcF at e
  split at e
  · cases hk
  · cases hk
  · split at e
    · rename_i hb
      cases e
      refine hta _ fun vs H1 G1 g r => ?_
      obtain ⟨v, rfl, r0⟩ := one_rp r
      cases r0
      exact ⟨_, rfl, hb.1, hb.2, hR _ H1 g.sH fun _ => feeds_rng 0 _⟩
    · cases e
  · split at e
    · rename_i hb
      cases e
      refine hta _ fun vs H1 G1 g r => ?_
      obtain ⟨v, w, rfl, r1, r2⟩ := two_rp r
      cases r1
      cases r2
      exact ⟨_, _, rfl, hb, hR _ H1 g.sH fun _ => feeds_rng _ _⟩
    · cases e
  · cases hk
  · cases hk
  · cases e
end
variable (K : PySem.W.Frag)
def OkS (s : ST) : Prop := ∀ (ρ : RhoS) (o : Ot), exec s ρ = some o → ∀ (G0 H0 F H : Hp) (σ : L2.St) (D : Ends), RepS G0 H0 F H σ ρ → PostO D G0 H0 F o → ts K s D σ H
def OkSs (ss : STs) : Prop := ∀ (ρ : RhoS) (o : Ot), execs ss ρ = some o → ∀ (G0 H0 F H : Hp) (σ : L2.St) (D : Ends), RepS G0 H0 F H σ ρ → PostO D G0 H0 F o → tss K ss D σ H
variable {K}
theorem for_ok {b : STs} (hb : OkSs K b) {G0 H0 F F1 H : Hp} {σ : L2.St} {ρ : RhoS} {D : Ends} {J : It} {items : List PB} {tg : TgX} {o : Ot} (R : RepS G0 H0 F1 H σ ρ) (s1 : Same F F1) (fd : Feeds (Zn H0) J F1 items)
    (e : forGo tg (fun ρ' => execs b ρ') items ρ = some o) (post : PostO D G0 H0 F o) :
    ∃ W : Nat → Nat → L2.St → Hp → Prop, (∃ m, W 0 m σ H) ∧ ∀ i m σ H, W i m σ H →
      (J.stop i H ∧ D.nx σ H) ∨ (J.go i H ∧ ∃ N : L2.St → Hp → Prop, (∀ σ' H', N σ' H' → ∃ m', m' < m ∧ W (i + 1) m' σ' H') ∧ ∀ x H', J.yld i H x H' → tgG K tg x σ H' fun σ2 H2 => tss K b { D with nx := N, ct := N, bk := D.nx } σ2 H2) := by
  refine ⟨fun i m σ H => i + m = items.length ∧ ∃ (F2 : Hp) (ρ2 : RhoS), Same F1 F2 ∧ RepS G0 H0 F2 H σ ρ2 ∧ forGo tg (fun ρ' => execs b ρ') (items.drop i) ρ2 = some o, ⟨items.length, by omega, F1, ρ, Same.refl _, R, e⟩, ?_⟩
  rintro i m σ H ⟨him, F2, ρ2, s2, R2, e2⟩
  obtain ⟨f1, f2⟩ := fd F2 H i s2 R2.gr.gh
  by_cases hi : i < items.length
  · obtain ⟨go, yl⟩ := f1 _ (List.getElem?_eq_getElem hi)
    rw [List.drop_eq_getElem_cons hi] at e2
    generalize items[i] = x0 at e2 yl
    refine .inr ⟨go, fun σ' H' => ∃ (F2 : Hp) (ρ2 : RhoS), Same F1 F2 ∧ RepS G0 H0 F2 H' σ' ρ2 ∧ forGo tg (fun ρ' => execs b ρ') (items.drop (i + 1)) ρ2 = some o, fun σ' H' h => ⟨m - 1, by omega, by omega, h⟩, fun x H' hy => ?_⟩
    obtain ⟨F3, g3, rx⟩ := yl x H' hy
    unfold forGo at e2
    obtain ⟨ρ3, e3, e2⟩ := Option.bind_eq_some_iff.mp e2
    obtain ⟨o1, e4, e2⟩ := Option.bind_eq_some_iff.mp e2
    refine bindS_ok e3 rx (R2.more g3) _ fun σ' R3 => ?_
    refine hb ρ3 o1 e4 G0 H0 F3 H' σ' _ R3 ?_
    cases o1 with
    | nx ρ4 => exact fun F' H' σ' s4 R4 => ⟨F', ρ4, (s2.trans g3.sG).trans s4, R4, e2⟩
    | ct ρ4 => exact fun F' H' σ' s4 R4 => ⟨F', ρ4, (s2.trans g3.sG).trans s4, R4, e2⟩
    | br ρ4 =>
      cases e2
      exact fun F' H' σ' s4 R4 => post F' H' σ' (((s1.trans s2).trans g3.sG).trans s4) R4
    | rt p =>
      cases e2
      exact post
  · refine .inl ⟨f2 (by omega), ?_⟩
    rw [List.drop_eq_nil_of_le (by omega)] at e2
    unfold forGo at e2
    cases e2
    exact post F2 H σ (s1.trans s2) R2
theorem whl_ok {b : STs} (hb : OkSs K b) {c : TX} {G0 H0 F H : Hp} {σ : L2.St} {ρ : RhoS} {D : Ends} {m : Nat} {o : Ot} (R : RepS G0 H0 F H σ ρ) (e : whlGo (fun ρ' => evT c (view (vT c) ρ')) (fun ρ' => execs b ρ') m ρ = some o) (post : PostO D G0 H0 F o) :
    tWhile (tt K c) (tss K b) D σ H := by
  refine ⟨fun m σ H => ∃ (F2 : Hp) (ρ2 : RhoS), Same F F2 ∧ RepS G0 H0 F2 H σ ρ2 ∧ whlGo (fun ρ' => evT c (view (vT c) ρ')) (fun ρ' => execs b ρ') m ρ2 = some o, ⟨m, F, ρ, Same.refl _, R, e⟩, ?_⟩
  rintro m σ H ⟨F2, ρ2, s2, R2, e2⟩
  cases m with
  | zero => cases e2
  | succ m =>
    unfold whlGo at e2
    obtain ⟨k, e3, e2⟩ := Option.bind_eq_some_iff.mp e2
    refine evTS_ok e3 R2 fun H' _ R3 => ?_
    cases k with
    | false =>
      rw [if_neg Bool.false_ne_true]
      rw [if_neg Bool.false_ne_true] at e2
      cases e2
      exact post F2 H' σ s2 R3
    | true =>
      rw [if_pos rfl]
      rw [if_pos rfl] at e2
      obtain ⟨o1, e4, e2⟩ := Option.bind_eq_some_iff.mp e2
      refine ⟨fun σ' H' => ∃ (F2 : Hp) (ρ2 : RhoS), Same F F2 ∧ RepS G0 H0 F2 H' σ' ρ2 ∧ whlGo (fun ρ' => evT c (view (vT c) ρ')) (fun ρ' => execs b ρ') m ρ2 = some o, fun σ' H' h => ⟨m, Nat.lt_succ_self m, h⟩, ?_⟩
      refine hb ρ2 o1 e4 G0 H0 F2 H' σ _ R3 ?_
      cases o1 with
      | nx ρ4 => exact fun F' H' σ' s4 R4 => ⟨F', ρ4, s2.trans s4, R4, e2⟩
      | ct ρ4 => exact fun F' H' σ' s4 R4 => ⟨F', ρ4, s2.trans s4, R4, e2⟩
      | br ρ4 =>
        cases e2
        exact fun F' H' σ' s4 R4 => post F' H' σ' (s2.trans s4) R4
      | rt p =>
        cases e2
        exact post
theorem PostO.nx {D : Ends} {G0 H0 F : Hp} {ρ : RhoS} (h : PostO D G0 H0 F (.nx ρ)) {F' H' : Hp} {σ' : L2.St} (s : Same F F') (r : RepS G0 H0 F' H' σ' ρ) : D.nx σ' H' := h F' H' σ' s r
mutual
theorem exec_ok : ∀ s : ST, OkS K s
  | .asg tg e => fun ρ o h G0 H0 F H σ D R post => by
    unfold exec at h
    obtain ⟨⟨r, ρ1⟩, e1, h⟩ := Option.bind_eq_some_iff.mp h
    obtain ⟨ρ2, e2, rfl⟩ := Option.map_eq_some_iff.mp h
    refine evS_ok e1 R fun v F1 H1 s1 R1 _ er => ?_
    exact exA_ok e2 R1 er _ fun F2 σ' s2 R2 => post.nx (s1.trans s2) R2
  | .par i j a b => fun ρ o h G0 H0 F H σ D R post => by
    unfold exec at h
    obtain ⟨ps, e1, h⟩ := Option.bind_eq_some_iff.mp h
    split at h
    · rename_i p q
      cases h
      cases hs : (isSc p.1 && isSc q.1) with
      | true =>
        rw [if_pos hs] at post
        rw [Bool.and_eq_true] at hs
        refine evsS_sc e1 R fun vs G' H' s' R' rs => ?_
        obtain ⟨v, w, rfl, r1, r2⟩ := two_rp rs
        refine ⟨v, w, rfl, post.nx (Same.refl _) ((R'.setFz (p := p) ?_).setFz (p := q) ?_)⟩
        · rw [sc_rp r1 hs.1]
          exact rp_sc hs.1
        · rw [sc_rp r2 hs.2]
          exact rp_sc hs.2
      | false =>
        rw [if_neg (by rw [hs]; decide)] at post
        refine evsS_ok e1 R fun vs F' H' s' R' _ rs => ?_
        obtain ⟨v, w, rfl, r1, r2⟩ := two_rp rs
        exact ⟨v, w, rfl, post.nx s' ((R'.setFz (p := p) r1).setFz (p := q) r2)⟩
    · cases h
  | .aug i op e => fun ρ o h G0 H0 F H σ D R post => by
    unfold exec at h
    obtain ⟨⟨r, ρ1⟩, e1, h⟩ := Option.bind_eq_some_iff.mp h
    split at h
    · rename_i a n b h1 h2
      cases h
      obtain ⟨v, a1, ra⟩ := R.fz i _ h1
      cases ra
      refine ⟨_, a1, evS_ok e1 R fun v F1 H1 s1 R1 _ er => ?_⟩
      dsimp only at h2
      have hρ : ρ1 = ρ := by
        unfold evS at e1
        obtain ⟨r', e3, e4⟩ := Option.map_eq_some_iff.mp e1
        cases e4
        rw [h2]
        rfl
      subst hρ
      obtain ⟨F2, s2, R2, rv⟩ := er.val R1
      dsimp only [Rs.pb] at rv
      rw [h2] at rv
      cases rv
      cases op with
      | add => exact ⟨_, _, rfl, rfl, post.nx (s1.trans s2) (R2.setFz (p := (.int (a + b), true)) (.int _))⟩
      | sub => exact ⟨_, _, rfl, rfl, post.nx (s1.trans s2) (R2.setFz (p := (.int (a - b), true)) (.int _))⟩
    · cases h
  | .drop e => fun ρ o h G0 H0 F H σ D R post => by
    unfold exec at h
    obtain ⟨⟨r, ρ1⟩, e1, rfl⟩ := Option.map_eq_some_iff.mp h
    exact evS_ok e1 R fun v F1 H1 s1 R1 _ er => post.nx s1 R1
  | .ret e => fun ρ o h G0 H0 F H σ D R post => by
    unfold exec at h
    obtain ⟨r, e1, rfl⟩ := Option.map_eq_some_iff.mp h
    obtain ⟨G, fg, gh, rep, own⟩ := R.opened (vE e)
    refine (ev_ok e).step e1 rep R.fresh gh fun v H' G' g rv => ?_
    exact post v G' H' (R.frozen fg rep own g).gr rv
  | .retN => fun ρ o h G0 H0 F H σ D R post => by
    unfold exec at h
    cases h
    exact post .non F H R.gr .non
  | .ifs c a b => fun ρ o h G0 H0 F H σ D R post => by
    unfold exec at h
    obtain ⟨k, e1, h⟩ := Option.bind_eq_some_iff.mp h
    refine evTS_ok e1 R fun H' _ R' => ?_
    cases k with
    | true =>
      rw [if_pos rfl]
      rw [if_pos rfl] at h
      exact execs_ok a ρ o h G0 H0 F H' σ D R' post
    | false =>
      rw [if_neg Bool.false_ne_true]
      rw [if_neg Bool.false_ne_true] at h
      exact execs_ok b ρ o h G0 H0 F H' σ D R' post
  | .for k src tg b => fun ρ o h G0 H0 F H σ D R post => by
    unfold exec at h
    obtain ⟨ps, e1, h⟩ := Option.bind_eq_some_iff.mp h
    obtain ⟨items, e2, h⟩ := Option.bind_eq_some_iff.mp h
    obtain ⟨G, fg, gh, rep, own⟩ := R.opened (vEs src)
    cases hk : isRng k with
    | true =>
      rw [if_pos hk] at h
      refine src_rng (Z := Zn H0) gh (fun Q hQ => evs_ok src _ ps e1 (Zn H0) G H σ Q rep R.fresh gh hQ) e2 hk fun J H1 s1 fd => ?_
      exact for_ok (execs_ok b) (R.keep s1) (Same.refl _) (fd F) h post
    | false =>
      rw [if_neg (by rw [hk]; decide)] at h
      refine src_ok (Z := Zn H0) gh (fun Q hQ => evs_ok src _ ps e1 (Zn H0) G H σ Q rep R.fresh gh hQ) e2 fun J G1 H1 g1 fd => ?_
      exact for_ok (execs_ok b) (R.frozen fg rep own g1) (fg.trans g1.sG) fd h post
  | .whl c m b => fun ρ o h G0 H0 F H σ D R post => by
    unfold exec at h
    exact whl_ok (execs_ok b) R h post
  | .brk => fun ρ o h G0 H0 F H σ D R post => by
    unfold exec at h
    cases h
    exact post F H σ (Same.refl _) R
  | .cnt => fun ρ o h G0 H0 F H σ D R post => by
    unfold exec at h
    cases h
    exact post F H σ (Same.refl _) R
  | .mapp o e => fun ρ o h G0 H0 F H σ D R post => by
    unfold exec at h
    cases h
  | .pas => fun ρ o h G0 H0 F H σ D R post => by
    unfold exec at h
    cases h
    exact post F H σ (Same.refl _) R
  | .app i e => fun ρ o h G0 H0 F H σ D R post => by
    unfold exec at h
    obtain ⟨⟨r, ρ1⟩, e1, h⟩ := Option.bind_eq_some_iff.mp h
    split at h
    · rename_i ds n h1
      split at h
      · rename_i hz
        cases h
        obtain ⟨l, xs, a1, a2, a3, a4, ra⟩ := R.ow i ds n (evS_back e1 h1)
        refine ⟨_, a1, .inl ⟨rfl, _, sqL_of a4⟩, evS_ok e1 R fun v F1 H1 s1 R1 _ er => ?_⟩
        obtain ⟨F2, s2, R2, rv⟩ := er.val R1
        obtain ⟨l', xs', b1, b2, b3, b4, rb⟩ := R2.ow i ds n h1
        rw [a1] at b1
        cases b1
        refine ⟨l, xs', v, rfl, rfl, b4, ?_, post.nx (s1.trans s2) (R2.mutate h1 a1 ((rb.mono zz_all (Same.refl _)).append (.cons (rv.mono zz_all2 (Same.refl _)) .nil)))⟩
        rw [rb.length]
        exact Nat.lt_of_lt_of_le hz (by decide)
      · cases h
    · cases h
  | .ext i e => fun ρ o h G0 H0 F H σ D R post => by
    unfold exec at h
    obtain ⟨⟨r, ρ1⟩, e1, h⟩ := Option.bind_eq_some_iff.mp h
    split at h
    · rename_i ds n es m h1 h2
      split at h
      · rename_i hz
        cases h
        obtain ⟨l, xs, a1, a2, a3, a4, ra⟩ := R.ow i ds n (evS_back e1 h1)
        refine ⟨_, a1, .inl ⟨rfl, _, sqL_of a4⟩, evS_ok e1 R fun v F1 H1 s1 R1 _ er => ?_⟩
        obtain ⟨F2, s2, R2, rv⟩ := er.val R1
        dsimp only at h2
        rw [h2] at rv
        obtain ⟨l', xs', b1, b2, b3, b4, rb⟩ := R2.ow i ds n h1
        rw [a1] at b1
        cases b1
        cases rv with
        | lst hb _ rc =>
        refine ⟨l, _, xs', _, rfl, rfl, b4, R2.gr.gh _ _ hb, ?_, post.nx (s1.trans s2) (R2.mutate h1 a1 ((rb.mono zz_all (Same.refl _)).append (rc.mono zz_all2 (Same.refl _))))⟩
        rw [rb.length, rc.length]
        exact Nat.le_trans (Nat.le_of_lt hz) (by decide)
      · cases h
    · cases h
  | .set i ix e => fun ρ o h G0 H0 F H σ D R post => by
    unfold exec at h
    obtain ⟨⟨r, ρ1⟩, e1, h⟩ := Option.bind_eq_some_iff.mp h
    obtain ⟨⟨r2, ρ2⟩, e2, h⟩ := Option.bind_eq_some_iff.mp h
    obtain ⟨ρ3, e3, rfl⟩ := Option.map_eq_some_iff.mp h
    dsimp only at e2 e3
    refine evS_ok e1 R fun v F1 H1 s1 R1 _ er => ?_
    obtain ⟨F2, s2, R2, rv⟩ := er.val R1
    obtain ⟨ds, n, c, h1, h2⟩ : ∃ ds n c, ρ1[i]? = some (.ow ds n) ∧ r2.d = .int c := by
      unfold setI at e3
      split at e3
      · rename_i ds n c h1 h2
        exact ⟨ds, n, c, h1, h2⟩
      · cases e3
    have hρ : ρ2 = ρ1 := by
      unfold evS at e2
      obtain ⟨r', e5, e6⟩ := Option.map_eq_some_iff.mp e2
      cases e6
      rw [h2]
      rfl
    subst hρ
    obtain ⟨l, xs, a1, a2, a3, a4, ra⟩ := R2.ow i ds n h1
    refine ⟨_, a1, evS_ok e2 R2 fun w F3 H3 s3 R3 _ er3 => ?_⟩
    obtain ⟨F4, s4, R4, rw4⟩ := er3.val R3
    dsimp only [Rs.pb] at rw4
    rw [h2] at rw4
    cases rw4
    rw [h2] at e3
    obtain ⟨l', b1, xs', c', j, b2, b3, b4, R5⟩ := setI_ok (w := .int c) e3 R4 (rv.same (s3.trans s4)) rfl
    rw [a1] at b1
    cases b1
    exact ⟨l, xs', c', j, rfl, b2, b3, b4, post.nx ((s1.trans s2).trans (s3.trans s4)) R5⟩
  | .set2 a b i ix j jx => fun ρ o h G0 H0 F H σ D R post => by
    unfold exec at h
    obtain ⟨ps, e1, h⟩ := Option.bind_eq_some_iff.mp h
    split at h
    · rename_i p q
      split at h
      · rename_i hs
        rw [Bool.and_eq_true] at hs
        obtain ⟨⟨r2, ρ2⟩, e2, h⟩ := Option.bind_eq_some_iff.mp h
        obtain ⟨ρ3, e3, h⟩ := Option.bind_eq_some_iff.mp h
        obtain ⟨⟨r4, ρ4⟩, e4, h⟩ := Option.bind_eq_some_iff.mp h
        obtain ⟨ρ5, e5, rfl⟩ := Option.map_eq_some_iff.mp h
        dsimp only at e3 e5
        refine evsS_sc e1 R fun vs G' H' s' R' rs => ?_
        obtain ⟨v, w, rfl, r1, r2'⟩ := two_rp rs
        have ev := sc_rp r1 hs.1
        have ew := sc_rp r2' hs.2
        refine ⟨by show 2 ≤ sizeLine; decide, fun t nt => ?_⟩
        have Rt : RepS G0 H0 F (upd H' t (.tup [v, w])) σ ρ := R'.keep (same_upd nt)
        refine ⟨t, _, rfl, sqT_of upd_same, rfl, v, [w], rfl, ?_⟩
        obtain ⟨ds, n, c, h1, h2⟩ : ∃ ds n c, ρ[i]? = some (.ow ds n) ∧ r2.d = .int c := by
          unfold setI at e3
          split at e3
          · rename_i ds n c h1 h2
            exact ⟨ds, n, c, h1, h2⟩
          · cases e3
        have hρ : ρ2 = ρ := by
          unfold evS at e2
          obtain ⟨r', e6, e7⟩ := Option.map_eq_some_iff.mp e2
          cases e7
          rw [h2]
          rfl
        subst hρ
        obtain ⟨l, xs, a1, _⟩ := Rt.ow i ds n h1
        refine ⟨_, a1, evS_ok e2 Rt fun x F3 H3 s3 R3 _ er3 => ?_⟩
        obtain ⟨F4, s4, R4, rx⟩ := er3.val R3
        dsimp only [Rs.pb] at rx
        rw [h2] at rx
        cases rx
        rw [h2] at e3
        obtain ⟨l', b1, xs', c', k, b2, b3, b4, R5⟩ := setI_ok (v := v) (w := .int c) e3 R4 (by rw [ev]; exact rp_sc hs.1) rfl
        rw [a1] at b1
        cases b1
        refine ⟨l, xs', c', k, rfl, b2, b3, b4, ?_⟩
        refine ⟨w, [], rfl, ?_⟩
        obtain ⟨ds', n', c2, h3, h4⟩ : ∃ ds n c, ρ3[j]? = some (.ow ds n) ∧ r4.d = .int c := by
          unfold setI at e5
          split at e5
          · rename_i ds n c h1 h2
            exact ⟨ds, n, c, h1, h2⟩
          · cases e5
        have hρ : ρ4 = ρ3 := by
          unfold evS at e4
          obtain ⟨r', e6, e7⟩ := Option.map_eq_some_iff.mp e4
          cases e7
          rw [h4]
          rfl
        subst hρ
        obtain ⟨l2, xs2, a2, _⟩ := R5.ow j ds' n' h3
        refine ⟨_, a2, evS_ok e4 R5 fun x F6 H6 s6 R6 _ er6 => ?_⟩
        obtain ⟨F7, s7, R7, rx⟩ := er6.val R6
        dsimp only [Rs.pb] at rx
        rw [h4] at rx
        cases rx
        rw [h4] at e5
        obtain ⟨l', b1, xs', c', k, b2, b3, b4, R8⟩ := setI_ok (v := w) (w := .int c2) e5 R7 (by rw [ew]; exact rp_sc hs.2) rfl
        rw [a2] at b1
        cases b1
        exact ⟨l2, xs', c', k, rfl, b2, b3, b4, rfl, post.nx ((s3.trans s4).trans (s6.trans s7)) R8⟩
      · cases h
    · cases h
  | .popA j i => fun ρ o h G0 H0 F H σ D R post => by
    unfold exec at h
    split at h
    · rename_i ds n h1
      obtain ⟨d, h2, rfl⟩ := Option.map_eq_some_iff.mp h
      obtain ⟨l, xs, a1, a2, a3, a4, ra⟩ := R.ow i ds n h1
      obtain ⟨v, h3, rv⟩ := ra.get h2
      refine ⟨_, a1, .inl ⟨rfl, _, sqL_of a4⟩, l, xs, v, rfl, rfl, a4, by rw [ra.length]; exact h3, ?_⟩
      have R1 := R.mutate (xs := xs.dropLast) (es := ds.dropLast) (m := n) h1 a1 (by
        rw [List.dropLast_eq_take, List.dropLast_eq_take, ra.length]
        exact ra.take _)
      exact post.nx (Same.refl _) (R1.setFz (p := (d, fl n d)) rv.fl)
    · cases h
  | .popI j i ix => fun ρ o h G0 H0 F H σ D R post => by
    unfold exec at h
    obtain ⟨⟨r2, ρ2⟩, e2, h⟩ := Option.bind_eq_some_iff.mp h
    split at h
    · rename_i ds n c h1 h2
      split at h
      · rename_i hb
        obtain ⟨k, h3, h⟩ := Option.bind_eq_some_iff.mp h
        obtain ⟨d, h4, rfl⟩ := Option.map_eq_some_iff.mp h
        dsimp only at h2
        have hρ : ρ2 = ρ := by
          unfold evS at e2
          obtain ⟨r', e6, e7⟩ := Option.map_eq_some_iff.mp e2
          cases e7
          rw [h2]
          rfl
        subst hρ
        obtain ⟨l, xs, a1, a2, a3, a4, ra⟩ := R.ow i ds n h1
        refine ⟨_, a1, .inl ⟨rfl, _, sqL_of a4⟩, evS_ok e2 R fun x F3 H3 s3 R3 _ er3 => ?_⟩
        obtain ⟨F4, s4, R4, rx⟩ := er3.val R3
        dsimp only [Rs.pb] at rx
        rw [h2] at rx
        cases rx
        obtain ⟨l', xs', b1, b2, b3, b4, rb⟩ := R4.ow i ds n h1
        rw [a1] at b1
        cases b1
        obtain ⟨v, h5, rv⟩ := rb.get h4
        refine ⟨l, xs', c, k, v, rfl, rfl, b4, hb.1, hb.2, by rw [rb.length]; exact h3, h5, ?_⟩
        have R1 := R4.mutate (xs := xs'.eraseIdx k) (es := ds.eraseIdx k) (m := n) h1 a1 (rb.erase k)
        exact post.nx (s3.trans s4) (R1.setFz (p := (d, fl n d)) rv.fl)
      · cases h
    · cases h
theorem execs_ok : ∀ ss : STs, OkSs K ss
  | .nil => fun ρ o h G0 H0 F H σ D R post => by
    unfold execs at h
    cases h
    exact post F H σ (Same.refl _) R
  | .one s => fun ρ o h G0 H0 F H σ D R post => by
    unfold execs at h
    exact exec_ok s ρ o h G0 H0 F H σ D R post
  | .cons s ss => fun ρ o h G0 H0 F H σ D R post => by
    unfold execs at h
    obtain ⟨o1, e1, h⟩ := Option.bind_eq_some_iff.mp h
    refine exec_ok s ρ o1 e1 G0 H0 F H σ { D with nx := tss K ss D } R ?_
    cases o1 with
    | nx ρ1 => exact fun F' H' σ' s' R' => execs_ok ss ρ1 o h G0 H0 F' H' σ' D R' (post.mono s')
    | ct ρ1 =>
      cases h
      exact post
    | br ρ1 =>
      cases h
      exact post
    | rt p =>
      cases h
      exact post
end
end Un

set_option maxRecDepth 100000
set_option maxHeartbeats 4000000
namespace Un
open PySem PySem.Spec PyProof.Rows L2
theorem runZ_len {np ns : Nat} {b : STs} {args : List PyData} {r : PB} (h : runZ np ns b args = some r) : args.length = np := by
  unfold runZ at h
  split at h
  · assumption
  · cases h
theorem start_rep {G H : Hp} {vs : List V} {ds : List PyData} {m : Nat} (gh : Same G H) (r : RpA (fun _ => True) G vs ds) : RepS G H G H (vs.map some ++ List.replicate m none) ((ds.map fun d => En.fz (d, nol d)) ++ List.replicate m .no) := by
  have hl := r.length
  have key : ∀ (i : Nat) (e : En), ((ds.map fun d => En.fz (d, nol d)) ++ List.replicate m En.no)[i]? = some e → e = .no ∨ ∃ d v, e = .fz (d, nol d) ∧ (vs.map some ++ List.replicate m none)[i]? = some (some v) ∧ Rp (fun _ => True) G v d := fun i e h => by
    rw [List.getElem?_append] at h
    rw [List.getElem?_append]
    rw [List.length_map] at h ⊢
    by_cases c : i < ds.length
    · rw [if_pos c, List.getElem?_map] at h
      rw [if_pos (by omega), List.getElem?_map]
      obtain ⟨d, h1, rfl⟩ := Option.map_eq_some_iff.mp h
      obtain ⟨v, h2, h3⟩ := r.get h1
      exact .inr ⟨d, v, rfl, by rw [h2] <;> rfl, h3⟩
    · rw [if_neg c, List.getElem?_replicate] at h
      split at h
      · cases h
        exact .inl rfl
      · cases h
  refine ⟨Grow.refl gh, by simp [hl], fun i p h => ?_, fun i es n h => ?_, fun i j l es es' n n' h1 _ _ _ => ?_, fun i p h => ?_⟩
  · rcases key i _ h with z | ⟨d, v, e1, e2, e3⟩
    · cases z
    · cases e1
      refine ⟨v, e2, ?_⟩
      cases q : nol d with
      | true => exact e3.nol q
      | false => exact e3.mono (fun a _ => zz_weak rfl a) (Same.refl _)
  · rcases key i _ h with z | ⟨d, v, e1, _⟩
    · cases z
    · cases e1
  · rcases key i _ h1 with z | ⟨d, v, e1, _⟩
    · cases z
    · cases e1
  · rcases key i _ h with z | ⟨d, v, e1, _⟩
    · cases z
    · cases e1
section
variable {P : Program} {w : World} {K : PySem.W.Frag} {mg : Str → Option Value} {base : Heap} {x qual : Str} {st : Stmt} {f : Addr} {fd : FuncData}
theorem runZ_ok {np ns : Nat} {b : STs} {vs : List V} {H : Hp} {Q : VK} {E : XK} (hn : np ≤ ns) (h : spZ (runZ np ns b) vs H Q E) : tss K b { nx := fun _ H' => Q .non H', rt := Q } (vs.map some ++ List.replicate (ns - vs.length) none) H := by
  obtain ⟨Z, G, ds, r, e, hZ, gh, rs, q⟩ := h
  have hl := runZ_len e
  unfold runZ at e
  rw [if_pos hl] at e
  obtain ⟨o, e1, e2⟩ := Option.bind_eq_some_iff.mp e
  rw [rs.length, hl]
  refine execs_ok b _ o e1 G H G H _ _ (start_rep gh rs) ?_
  have up : ∀ {n : Bool} {v : V} {d : PyData} {G' : Hp}, Rp (zz (Zn H) n) G' v d → Rp (zz Z n) G' v d := fun h => h.mono (fun a z n => hZ a (z n)) (Same.refl _)
  cases o with
  | rt p =>
    cases e2
    exact fun v F' H' g rv => q v H' F' g (up rv)
  | nx ρ =>
    cases e2
    exact fun F' H' σ' s R => q .non H' F' R.gr .non
  | ct ρ => cases e2
  | br ρ => cases e2
theorem fnG_Z {N ps : List Str} {k : Nat} (F : Fun K x qual st f fd) (S : FnScope N ps (defScope st)) (b : STs) (hn : ps.length ≤ N.length)
    (body : ∀ (cdv : Value) (A : Around) (outer : List Env) (s : Shared) (H : Hp), A.guards = some [] → Room k (A.deeper (envOfC qual (defScope st) s.heap.objs.size f cdv)) →
      PSs (cxOf CX0 P w K mg base N qual (defScope st) f cdv A outer s H E0).nox (defBody st) (tss K b)) : FnG P w K mg base (k + 1) f fd ps (spZ (runZ ps.length N.length b)) := by
  refine fnG_ok F S (fun vs H Q E h => ?_) (fun cdv A outer s H vs Q hg hr h => ⟨tss K b, body cdv A outer s H hg hr, runZ_ok hn h⟩)
  obtain ⟨Z, G, ds, r, e, _, _, rs, _⟩ := h
  rw [rs.length]
  exact runZ_len e
/-- a promise by another -/
theorem FnG.by {k : Nat} {ps : List Str} {sp sp' : Sp} (F : FnG P w K mg base k f fd ps sp) (h : ∀ vs H Q, sp' vs H Q E0 → sp vs H Q E0) (hl : ∀ vs H Q E, sp' vs H Q E → vs.length = ps.length) : FnG P w K mg base k f fd ps sp' :=
  ⟨hl, fun A outer s H args us vs Q hg hr e0 hb r hsp => F.run A outer s H args us vs Q hg hr e0 hb r (h vs H Q hsp)⟩
theorem FnOk.g {k : Nat} {ps : List Str} {sp : Sp} (F : FnOk P w K mg base CX0 k f fd ps sp) : FnG P w K mg base k f fd ps sp :=
  ⟨F.len, fun A outer s H args us vs Q _ hr e0 hb r hsp => F.run A outer s H args us vs Q E0 hr e0 hb r hsp⟩
theorem FnG.mono {k k' : Nat} {ps : List Str} {sp : Sp} (F : FnG P w K mg base k f fd ps sp) (h : k ≤ k') : FnG P w K mg base k' f fd ps sp :=
  ⟨F.len, fun A outer s H args us vs Q hg hr => F.run A outer s H args us vs Q hg (hr.mono h)⟩
end
/-! ### keyword calls -/
structure KCalG (P : Program) (w : World) (K : PySem.W.Frag) (mg : Str → Option Value) (base : Heap) (k : Nat) (x : Str) (sp : Sp) (ks : List Str) (gV : List V → List V → List V) : Prop where
  ex : ∃ (f : Addr) (fd : FuncData) (ps : List Str) (g : List Value → List Value → List Value), FnG P w K mg base k f fd ps sp ∧ mg x = some (.ref f) ∧ PySem.W.keepIn K (.ref f) = true ∧ KBn K fd ps 0 ks g gV
theorem pe_kcG {X : Cx} {j k : Nat} {x : Str} {sp : Sp} {ks : List Str} {gV : List V → List V → List V} {p pos : Pos} {kws : List Keyword} {tk : TA} (hgd : X.A.guards = some []) (c : KCalG X.prog X.w X.K X.mg X.base k x sp ks gV) (hr : Room j X.A) (hk : k ≤ j) (hg : Gl X x) (hkw : PK X kws tk)
    (hall : (backToKw pos (keywordEach kws X.env)).all (·.1.isSome) = true := by rfl) (hks : (backToKw pos (keywordEach kws X.env)).filterMap (·.1) = ks := by rfl) (hdb : (x == ("__debug__" : Str)) = false := by decide)
    (hpl : ((backTo pos (starEach [] X.env)).any (·.1) || (backToKw pos (keywordEach kws X.env)).any (·.1.isNone)) = false := by rfl) : PE X (.Call (.Name x p) [] kws pos) (tCallK0 ks.length sp gV tk) := by
  obtain ⟨f, fd, ps, g, F, hm, kp, hb⟩ := c.ex
  refine ⟨fun pins s σ H Q I h => wpAny_Call_Name_kw (ld_glob I hg hm ?_ hdb)⟩
  refine PySem.W.callWith_KW0 (h₀ := X.base) I.ok.mod.kin kp hall (thn (hkw.run pos pins s σ H _ I h) ?_) hpl
  rintro ws s2 ⟨zs, H2, I2, rz, l2, q2⟩
  refine ⟨I2.kIn, ?_⟩
  rw [hks]
  have r2 := hb.rel (vs := []) (us := []) .nil rz
  refine wpAny_call (codeAny_mono (F.run X.A X.stack s2 H2 ⟨[], ks.zip ws⟩ (g [] ws) (gV [] zs) Q hgd (hr.mono hk) I2.env0 (hb.to s2 [] ws I2.kIn rfl (rz.length.symm.trans l2)) r2 q2) fun r s' hq => ?_)
  cases r with
  | error e => exact hq.elim
  | ok fl =>
    cases fl with
    | ret u => exact I2.after hq
    | next => exact hq.elim
    | brk => exact hq.elim
    | cont => exact hq.elim
theorem kcalG_of {P : Program} {w : World} {K : PySem.W.Frag} {mg : PySem.Str → Option Value} {base : Heap} {k : Nat} {x : PySem.Str} {st : Stmt} {f : Addr} {fd : FuncData} {ps ks : List PySem.Str} {sp : Sp} {gV : List V → List V → List V} {g : List Value → List Value → List Value} (F : Fun K x x st f fd) (m : mg x = some (.ref f)) (b : KBn K fd ps 0 ks g gV) (G : FnG P w K mg base k f fd ps sp) :
    KCalG P w K mg base k x sp ks gV := ⟨⟨f, fd, ps, g, G, m, F.kp, b⟩⟩
theorem vals_at : ∀ {vs : List V} {us : List Value} (i : Nat), Vals vs us → (vs[i]? = none ∧ us[i]? = none) ∨ ∃ v u, vs[i]? = some v ∧ us[i]? = some u ∧ RelV v u
  | _, _, _, .nil => .inl ⟨by simp, by simp⟩
  | _, _, 0, .cons r _ => .inr ⟨_, _, rfl, rfl, r⟩
  | _, _, i + 1, .cons _ t => by
    rcases vals_at i t with ⟨a, b⟩ | ⟨v, u, a, b, r⟩
    · exact .inl ⟨by simpa using a, by simpa using b⟩
    · exact .inr ⟨v, u, by simpa using a, by simpa using b, r⟩
theorem permL_rel (ix : List Nat) {vs : List V} {us : List Value} {zs : List V} {ws : List Value} (_ : Vals vs us) (r : Vals zs ws) : Vals (permL ix zs) (permL ix ws) := by
  induction ix with
  | nil => exact .nil
  | cons i ix ih =>
    unfold permL at ih ⊢
    rw [List.filterMap_cons, List.filterMap_cons]
    rcases vals_at i r with ⟨a, b⟩ | ⟨v, u, a, b, rv⟩
    · rw [a, b]
      exact ih
    · rw [a, b]
      exact .cons rv ih
end Un
namespace Un
open PySem PySem.Spec PyProof.Rows L2
theorem hu65 {k : Nat} {A : Around} (hr : Room k A) : A.units + 65 < cLine := by
  have := hr.un
  omega
theorem cr_lenZ {X : Cx} : CallR X (.builtin "len") (OpN.r X.K .len) := call_len_seq
theorem cr_sortedZ {X : Cx} : CallR X (.builtin "sorted") (OpN.r X.K .sorted) := cr_sortedZ0
theorem op_leZ {X : Cx} (hu : X.A.units < cLine) : OpR X (compareOp .LtE) (Op2.r X.K .le) := op_le
end Un

set_option maxRecDepth 100000
set_option maxHeartbeats 4000000
namespace Un
open PySem PySem.Spec PyProof.Rows L2
/-! ### reckoning: rows for simp -/
def forE (tg : TgX) (b : STs) (items : List PB) (ρ : RhoS) : Option Ot := forGo tg (fun ρ' => execs b ρ') items ρ
def whlE (c : TX) (b : STs) (m : Nat) (ρ : RhoS) : Option Ot := whlGo (fun ρ' => evT c (view (vT c) ρ')) (fun ρ' => execs b ρ') m ρ
/-- .. with two clauses -/
def lc2E (tg : TgX) (t : QX) (k1 : SK) (src1 : EXs) (tg1 : TgX) (t1 : QX) (e : EX) (vs1 : List Nat) (ρ : Rho) (items : List PB) : Option (List PB) := lc2Go tg (fun ρ' => evQ t ρ') (fun ρ' => (evs src1 ρ').bind fun qs => srcF k1 qs) tg1 (fun ρ' => evQ t1 ρ') (fun ρ' => ev e ρ') vs1 ρ items
def lcE (tg : TgX) (t : QX) (e : EX) (ρ : Rho) (items : List PB) : Option (List PB) := lcGo tg (fun ρ' => evQ t ρ') (fun ρ' => ev e ρ') ρ items
def nxt (ss : STs) : Ot → Option Ot
  | .nx ρ => execs ss ρ
  | o => some o
def asgK (tg : TgX) (M : List Nat) (ρ : RhoS) (r : Rs) : Option Ot := (exA tg r (if isSc r.d then ρ else frz M ρ)).map .nx
theorem execs_nil {ρ : RhoS} : execs .nil ρ = some (.nx ρ) := id rfl
theorem execs_one {s : ST} {ρ : RhoS} : execs (.one s) ρ = exec s ρ := id rfl
theorem execs_cons {s : ST} {ss : STs} {ρ : RhoS} : execs (.cons s ss) ρ = (exec s ρ).bind fun o => nxt ss o := by
  show ((exec s ρ).bind fun o => _) = _
  congr 1
theorem nxt_nx {ss : STs} {ρ : RhoS} : nxt ss (.nx ρ) = execs ss ρ := id rfl
theorem nxt_rt {ss : STs} {p : PB} : nxt ss (.rt p) = some (.rt p) := id rfl
theorem nxt_br {ss : STs} {ρ : RhoS} : nxt ss (.br ρ) = some (.br ρ) := id rfl
theorem nxt_ct {ss : STs} {ρ : RhoS} : nxt ss (.ct ρ) = some (.ct ρ) := id rfl
theorem exec_asg {tg : TgX} {e : EX} {ρ : RhoS} : exec (.asg tg e) ρ = (ev e (view (vE e) ρ)).bind fun r => asgK tg (vE e) ρ r := by
  show ((evS e ρ).bind fun x => _) = _
  unfold evS asgK
  cases ev e (view (vE e) ρ) <;> rfl
def dropK (M : List Nat) (ρ : RhoS) (r : Rs) : Option Ot := some (.nx (if isSc r.d then ρ else frz M ρ))
theorem exec_ret {e : EX} {ρ : RhoS} : exec (.ret e) ρ = (ev e (view (vE e) ρ)).bind fun r => some (.rt r.pb) := by
  show (ev e (view (vE e) ρ)).map _ = _
  cases ev e (view (vE e) ρ) <;> rfl
theorem exec_retN {ρ : RhoS} : exec .retN ρ = some (.rt (.none, true)) := id rfl
theorem exec_ifs {c : TX} {a b : STs} {ρ : RhoS} : exec (.ifs c a b) ρ = (evT c (view (vT c) ρ)).bind fun k => bif k then execs a ρ else execs b ρ := by
  show ((evT c (view (vT c) ρ)).bind fun k => _) = _
  congr 1
  funext k
  cases k <;> rfl
theorem exec_for {k : SK} {src : EXs} {tg : TgX} {b : STs} {ρ : RhoS} : exec (.for k src tg b) ρ = (evs src (view (vEs src) ρ)).bind fun ps => (srcF k ps).bind fun items => forE tg b items (bif isRng k then ρ else frz (vEs src) ρ) := by
  show ((evs src (view (vEs src) ρ)).bind fun ps => (srcF k ps).bind fun items => _) = _
  cases k <;> rfl
theorem exec_whl {c : TX} {m : Nat} {b : STs} {ρ : RhoS} : exec (.whl c m b) ρ = whlE c b m ρ := id rfl
theorem exec_brk {ρ : RhoS} : exec .brk ρ = some (.br ρ) := id rfl
theorem exec_cnt {ρ : RhoS} : exec .cnt ρ = some (.ct ρ) := id rfl
theorem exec_pas {ρ : RhoS} : exec .pas ρ = some (.nx ρ) := id rfl
def appE (i : Nat) (ρ : RhoS) (d : PyData) (n : Bool) : En → Option Ot
  | .ow ds m => bif decide (ds.length < 100000) then some (.nx (ρ.set i (.ow (ds ++ [d]) (m && n)))) else none
  | _ => none
def appP (i : Nat) (ρ : RhoS) (d : PyData) (n : Bool) : Option Ot := (ρ[i]?).bind fun e => appE i ρ d n e
def appK (i : Nat) (M : List Nat) (ρ : RhoS) (r : Rs) : Option Ot := appP i (if isSc r.d then ρ else frz M ρ) r.pb.1 r.pb.2
theorem appE_ow {i : Nat} {ρ : RhoS} {d : PyData} {n m : Bool} {ds : List PyData} : appE i ρ d n (.ow ds m) = bif decide (ds.length < 100000) then some (.nx (ρ.set i (.ow (ds ++ [d]) (m && n)))) else none := id rfl
theorem exec_app {i : Nat} {e : EX} {ρ : RhoS} : exec (.app i e) ρ = (ev e (view (vE e) ρ)).bind fun r => appK i (vE e) ρ r := by
  show ((evS e ρ).bind fun x => _) = _
  unfold evS appK
  cases ev e (view (vE e) ρ) with
  | none => rfl
  | some r =>
    show (match (if isSc r.d then ρ else frz (vE e) ρ)[i]? with
      | some (.ow ds n) => if ds.length < 100000 then some (Ot.nx ((if isSc r.d then ρ else frz (vE e) ρ).set i (.ow (ds ++ [r.pb.1]) (n && r.pb.2)))) else none
      | _ => none) = ((if isSc r.d then ρ else frz (vE e) ρ)[i]?).bind fun e' => appE i (if isSc r.d then ρ else frz (vE e) ρ) r.pb.1 r.pb.2 e'
    generalize (if isSc r.d then ρ else frz (vE e) ρ) = ρ1
    cases ρ1[i]? with
    | none => rfl
    | some e' =>
      cases e' with
      | no => rfl
      | fz p => rfl
      | od p => rfl
      | ow ds n =>
        show (if ds.length < 100000 then _ else none) = bif decide (ds.length < 100000) then _ else none
        by_cases h : ds.length < 100000
        · rw [if_pos h, decide_eq_true h] <;> rfl
        · rw [if_neg h, decide_eq_false h] <;> rfl
theorem exec_set {i : Nat} {ix e : EX} {ρ : RhoS} : exec (.set i ix e) ρ = (evS e ρ).bind fun x => (evS ix x.2).bind fun y => (setI x.2 i y.1.d x.1.pb).map .nx := id rfl
def setE (ρ : RhoS) (i : Nat) (c : Int) (p : PB) : En → Option RhoS
  | .ow ds n => (ixN ds.length c).bind fun j => some (ρ.set i (.ow (ds.set j p.1) (n && p.2)))
  | _ => none
theorem setE_ow {ρ : RhoS} {i : Nat} {c : Int} {p : PB} {ds : List PyData} {n : Bool} : setE ρ i c p (.ow ds n) = (ixN ds.length c).bind fun j => some (ρ.set i (.ow (ds.set j p.1) (n && p.2))) := id rfl
theorem setI_go {ρ : RhoS} {i : Nat} {c : Int} {p : PB} : setI ρ i (.int c) p = (ρ[i]?).bind fun e => setE ρ i c p e := by
  unfold setI
  cases ρ[i]? with
  | none => rfl
  | some e =>
    cases e with
    | ow ds n =>
      show (ixN ds.length c).map _ = (ixN ds.length c).bind _
      cases ixN ds.length c <;> rfl
    | no => rfl
    | fz q => rfl
    | od q => rfl
theorem evS_go {e : EX} {ρ : RhoS} : evS e ρ = (ev e (view (vE e) ρ)).bind fun r => some (r, bif isSc r.d then ρ else frz (vE e) ρ) := by
  unfold evS
  cases ev e (view (vE e) ρ) with
  | none => rfl
  | some r =>
    show some (r, if isSc r.d = true then ρ else frz (vE e) ρ) = some (r, bif isSc r.d then ρ else frz (vE e) ρ)
    cases isSc r.d <;> rfl
theorem exec_setS {i : Nat} {ix e : EX} {ρ : RhoS} : exec (.set i ix e) ρ = (evS e ρ).bind fun x => (evS ix x.2).bind fun y => (setI x.2 i y.1.d x.1.pb).bind fun ρ' => some (.nx ρ') := by
  show ((evS e ρ).bind fun x => (evS ix x.2).bind fun y => (setI x.2 i y.1.d x.1.pb).map Ot.nx) = _
  congr 1
  funext x
  congr 1
  funext y
  cases setI x.2 i y.1.d x.1.pb <;> rfl
theorem exec_set2 {a b ix jx : EX} {i j : Nat} {ρ : RhoS} : exec (.set2 a b i ix j jx) ρ = (ev a (view (vE a ++ (vE b ++ [])) ρ)).bind fun r => (ev b (view (vE a ++ (vE b ++ [])) ρ)).bind fun q =>
    bif isSc r.d && isSc q.d then (evS ix ρ).bind fun y => (setI ρ i y.1.d r.pb).bind fun ρ1 => (evS jx ρ1).bind fun z => (setI ρ1 j z.1.d q.pb).bind fun ρ2 => some (.nx ρ2) else none := by
  show ((evs (.cons a (.cons b .nil)) (view (vE a ++ (vE b ++ [])) ρ)).bind fun ps => _) = _
  unfold evs
  cases ev a (view (vE a ++ (vE b ++ [])) ρ) with
  | none => rfl
  | some r =>
    unfold evs
    cases ev b (view (vE a ++ (vE b ++ [])) ρ) with
    | none => rfl
    | some q =>
      show (if (isSc r.d && isSc q.d) = true then _ else _) = bif (isSc r.d && isSc q.d) then _ else _
      cases (isSc r.d && isSc q.d) with
      | false => rfl
      | true =>
        show (evS ix ρ).bind _ = (evS ix ρ).bind _
        congr 1
        funext y
        congr 1
        funext ρ1
        congr 1
        funext z
        cases setI ρ1 j z.1.d q.pb <;> rfl
theorem isSc_i {i : Int} : isSc (.int i) = true := id rfl
theorem isSc_b {b : Bool} : isSc (.bool b) = true := id rfl
theorem isSc_s {s : PySem.Str} : isSc (.str s) = true := id rfl
theorem isSc_n : isSc .none = true := id rfl
theorem isSc_l {ds : List PyData} : isSc (.list ds) = false := id rfl
theorem isSc_u {ds : List PyData} : isSc (.tuple ds) = false := id rfl
theorem exec_par {i j : Nat} {a b : EX} {ρ : RhoS} : exec (.par i j a b) ρ = (ev a (view (vE a ++ (vE b ++ [])) ρ)).bind fun r => (ev b (view (vE a ++ (vE b ++ [])) ρ)).bind fun q =>
    some (.nx (((bif isSc r.d && isSc q.d then ρ else frz (vE a ++ (vE b ++ [])) ρ).set i (.fz r.pb)).set j (.fz q.pb))) := by
  show ((evs (.cons a (.cons b .nil)) (view (vE a ++ (vE b ++ [])) ρ)).bind fun ps => _) = _
  unfold evs
  cases ev a (view (vE a ++ (vE b ++ [])) ρ) with
  | none => rfl
  | some r =>
    unfold evs
    cases ev b (view (vE a ++ (vE b ++ [])) ρ) with
    | none => rfl
    | some q =>
      show some _ = some _
      congr 3
      cases (isSc r.d && isSc q.d) <;> rfl
def augK (i : Nat) (o : AugOp) (ρ : RhoS) (r : Rs) : Option Ot := match ρ[i]?, r.d with
  | some (.fz (.int a, _)), .int b => some (.nx (ρ.set i (.fz (.int (o.f a b), true))))
  | _, _ => none
theorem exec_aug {i : Nat} {o : AugOp} {e : EX} {ρ : RhoS} : exec (.aug i o e) ρ = (ev e (view (vE e) ρ)).bind fun r => augK i o ρ r := by
  show ((evS e ρ).bind fun x => _) = _
  unfold evS augK
  cases ev e (view (vE e) ρ) <;> rfl
/-! expressions -/
theorem ev_var {i : Nat} {ρ : Rho} : ev (.var i) ρ = (getR ρ i).bind fun p => some ⟨p.1, p.2, false⟩ := by
  show (getR ρ i).map _ = _
  cases getR ρ i <;> rfl
theorem getR_view {M : List Nat} {ρ : RhoS} {i : Nat} : getR (view M ρ) i = (ρ[i]?).bind fun e => vwAt M i e := by
  unfold getR view
  rw [List.getElem?_mapIdx]
  cases ρ[i]? with
  | none => rfl
  | some e =>
    show (match some (vwAt M i e) with | some (some p) => some p | _ => none) = vwAt M i e
    cases vwAt M i e <;> rfl
theorem vwAt_fz {M : List Nat} {i : Nat} {p : PB} : vwAt M i (.fz p) = some p := id rfl
theorem vwAt_od {M : List Nat} {i : Nat} {p : PB} : vwAt M i (.od p) = some p := id rfl
theorem vwAt_ow {M : List Nat} {i : Nat} {ds : List PyData} {n : Bool} : vwAt M i (.ow ds n) = bif M.contains i then some (.list ds, n) else none := by
  show (if M.contains i = true then _ else _) = _
  cases M.contains i <;> rfl
theorem frz_nil {M : List Nat} : frz M [] = [] := id rfl
def frzA (M : List Nat) : Nat → RhoS → RhoS
  | _, [] => []
  | i, e :: ρ => frAt M i e :: frzA M (i + 1) ρ
theorem frzA_eq (M : List Nat) : ∀ (ρ : RhoS) (i : Nat), frzA M i ρ = ρ.mapIdx fun j e => frAt M (i + j) e
  | [], _ => rfl
  | e :: ρ, i => by
    unfold frzA
    rw [List.mapIdx_cons, frzA_eq M ρ (i + 1)]
    congr 1
    refine congrArg (fun f => List.mapIdx f ρ) ?_
    funext j e
    rw [show i + 1 + j = i + (j + 1) by omega]
theorem frz_go {M : List Nat} {ρ : RhoS} : frz M ρ = frzA M 0 ρ := by
  rw [frzA_eq]
  unfold frz
  congr 1
  funext j e
  rw [Nat.zero_add]
theorem frzA_nil {M : List Nat} {i : Nat} : frzA M i [] = [] := id rfl
theorem frzA_fz {M : List Nat} {i : Nat} {p : PB} {ρ : RhoS} : frzA M i (.fz p :: ρ) = .fz p :: frzA M (i + 1) ρ := id rfl
theorem frzA_no {M : List Nat} {i : Nat} {ρ : RhoS} : frzA M i (.no :: ρ) = .no :: frzA M (i + 1) ρ := id rfl
theorem frzA_ow {M : List Nat} {i : Nat} {ds : List PyData} {n : Bool} {ρ : RhoS} : frzA M i (.ow ds n :: ρ) = (bif M.contains i then .fz (.list ds, n) else .ow ds n) :: frzA M (i + 1) ρ := by
  show (if M.contains i = true then _ else _) :: _ = _
  cases M.contains i <;> rfl
theorem ev_int {i : Int} {ρ : Rho} : ev (.cst (.int i)) ρ = some ⟨.int i, true, false⟩ := id rfl
theorem ev_bool {b : Bool} {ρ : Rho} : ev (.cst (.bool b)) ρ = some ⟨.bool b, true, false⟩ := id rfl
theorem ev_dic0 {ρ : Rho} : ev .dic0 ρ = some ⟨.dict [], true, false⟩ := id rfl
theorem ev_none {ρ : Rho} : ev (.cst .none) ρ = some ⟨.none, true, false⟩ := id rfl
theorem ev_str {s : PySem.Str} {ρ : Rho} : ev (.cst (.str s)) ρ = some ⟨.str s, true, false⟩ := id rfl
theorem ev_bin {o : Op2} {a b : EX} {ρ : Rho} : ev (.bin o a b) ρ = (ev a ρ).bind fun p => (ev b ρ).bind fun q => o.f p.pb q.pb := id rfl
theorem ev_un {o : Op1} {a : EX} {ρ : Rho} : ev (.un o a) ρ = (ev a ρ).bind fun p => o.f p.pb := id rfl
def boolK {α : Type} (d : PyData) (t f : Option α) : Option α := match d with
  | .bool true => t
  | .bool false => f
  | _ => none
theorem boolK_t {α : Type} {t f : Option α} : boolK (.bool true) t f = t := id rfl
theorem boolK_f {α : Type} {t f : Option α} : boolK (.bool false) t f = f := id rfl
theorem boolK_b {α : Type} {b : Bool} {t f : Option α} : boolK (.bool b) t f = bif b then t else f := by cases b <;> rfl
theorem ev_and {a b : EX} {ρ : Rho} : ev (.andE a b) ρ = (ev a ρ).bind fun p => boolK p.d (ev b ρ) (some ⟨.bool false, true, false⟩) := id rfl
theorem ev_or {a b : EX} {ρ : Rho} : ev (.orE a b) ρ = (ev a ρ).bind fun p => boolK p.d (some ⟨.bool true, true, false⟩) (ev b ρ) := id rfl
def notK (d : PyData) : Option Rs := match d with
  | .bool c => some (sc (.bool (!c)))
  | _ => none
theorem notK_b {c : Bool} : notK (.bool c) = some ⟨.bool (!c), true, false⟩ := id rfl
theorem ev_not {a : EX} {ρ : Rho} : ev (.notE a) ρ = (ev a ρ).bind fun p => notK p.d := id rfl
theorem ev_ife {c : TX} {a b : EX} {ρ : Rho} : ev (.ife c a b) ρ = (evT c ρ).bind fun k => bif k then ev a ρ else ev b ρ := by
  show ((evT c ρ).bind fun k => _) = _
  congr 1
  funext k
  cases k <;> rfl
theorem ev_chn {o p : Op2} {a b c : EX} {ρ : Rho} : ev (.chn o p a b c) ρ = (ev a ρ).bind fun x => (ev b ρ).bind fun y => (o.f x.pb y.pb).bind fun z => boolK z.d ((ev c ρ).bind fun w => p.f y.pb w.pb) (some ⟨.bool false, true, false⟩) := id rfl
theorem ev_tup {es : EXs} {ρ : Rho} : ev (.tup es) ρ = (evs es ρ).bind fun ps => bif decide (ps.length ≤ 100000) then some ⟨.tuple (ps.map (·.1)), ps.all (·.2), false⟩ else none := by
  show ((evs es ρ).bind fun ps => _) = _
  congr 1
  funext ps
  by_cases h : ps.length ≤ 100000
  · rw [if_pos h, decide_eq_true h] <;> rfl
  · rw [if_neg h, decide_eq_false h] <;> rfl
theorem ev_lst {es : EXs} {ρ : Rho} : ev (.lst es) ρ = (evs es ρ).bind fun ps => bif decide (ps.length ≤ 100000) then some ⟨.list (ps.map (·.1)), ps.all (·.2), true⟩ else none := by
  show ((evs es ρ).bind fun ps => _) = _
  congr 1
  funext ps
  by_cases h : ps.length ≤ 100000
  · rw [if_pos h, decide_eq_true h] <;> rfl
  · rw [if_neg h, decide_eq_false h] <;> rfl
def slK (p : PB) (l h : Option Int) : Option Rs := match p with
  | (.list ds, n) => some ⟨.list ((ds.drop (HT.sIx ds.length 0 l)).take (HT.sIx ds.length ds.length h - HT.sIx ds.length 0 l)), n, true⟩
  | _ => none
theorem ev_sl {a : EX} {lo hi : PX} {ρ : Rho} : ev (.sl a lo hi) ρ = (ev a ρ).bind fun p => (evP lo ρ).bind fun l => (evP hi ρ).bind fun h => slK p.pb l h := id rfl
def revK (p : PB) : Option Rs := match p with
  | (.list ds, n) => some ⟨.list ds.reverse, n, true⟩
  | _ => none
theorem ev_rev {a : EX} {ρ : Rho} : ev (.rev a) ρ = (ev a ρ).bind fun p => revK p.pb := id rfl
theorem ev_cb {o : OpN} {es : EXs} {ρ : Rho} : ev (.cb o es) ρ = (evs es ρ).bind fun ps => o.f ps := id rfl
def lrK (d : PyData) (e : PyData) : Option Rs := match d, e with
  | .int m, .int n => if rgB m n then some ⟨.list (rngD m n), true, true⟩ else none
  | _, _ => none
theorem lrK_i {m n : Int} : lrK (.int m) (.int n) = bif rgB m n then some ⟨.list (rngD m n), true, true⟩ else none := by
  show (if rgB m n = true then _ else _) = _
  cases rgB m n <;> rfl
theorem ev_lrg1 {a : EX} {ρ : Rho} : ev (.lrg1 a) ρ = (ev a ρ).bind fun p => lrK (.int 0) p.d := by
  show ((ev a ρ).bind fun p => _) = _
  congr 1
  funext p
  cases p.d <;> rfl
theorem ev_lrg2 {a b : EX} {ρ : Rho} : ev (.lrg2 a b) ρ = (ev a ρ).bind fun p => (ev b ρ).bind fun q => lrK p.d q.d := id rfl
theorem ev_lzip {a b : EX} {ρ : Rho} : ev (.lzip a b) ρ = (ev a ρ).bind fun p => (ev b ρ).bind fun q => lzF p.pb q.pb := id rfl
theorem ev_call {fn : FnZ} {es : EXs} {ρ : Rho} : ev (.call fn es) ρ = (evs es ρ).bind fun ps => (fn (ps.map (·.1))).bind fun r => some ⟨r.1, r.2, false⟩ := by
  show ((evs es ρ).bind fun ps => (fn (ps.map (·.1))).map _) = _
  congr 1
  funext ps
  cases fn (ps.map (·.1)) <;> rfl
theorem ev_kcall {fn : FnZ} {ix : List Nat} {m : Nat} {es : EXs} {ρ : Rho} : ev (.kcall fn ix m es) ρ = (evs es ρ).bind fun ps => bif decide (ps.length = m) then (fn (permL ix (ps.map (·.1)))).bind fun r => some ⟨r.1, r.2, false⟩ else none := by
  show ((evs es ρ).bind fun ps => _) = _
  congr 1
  funext ps
  by_cases h : ps.length = m
  · rw [if_pos h, decide_eq_true h]
    show (fn _).map _ = _
    cases fn (permL ix (ps.map (·.1))) <;> rfl
  · rw [if_neg h, decide_eq_false h] <;> rfl
theorem ev_idx {a b : EX} {ρ : Rho} : ev (.idx a b) ρ = (ev a ρ).bind fun p => (ev b ρ).bind fun q => idxF p.pb q.pb := id rfl
theorem ev_lc {k : SK} {src : EXs} {tg : TgX} {t : QX} {e : EX} {vs : List Nat} {ρ : Rho} : ev (.lc k src tg t e vs) ρ = (evs src ρ).bind fun ps => (srcF k ps).bind fun items => (lcE tg t e (wipeR ρ vs) items).bind fun ys =>
    bif decide (ys.length ≤ 100000) && tgIn tg vs then some ⟨.list (ys.map (·.1)), ys.all (·.2), true⟩ else none := by
  show ((evs src ρ).bind fun ps => (srcF k ps).bind fun items => (lcE tg t e (wipeR ρ vs) items).bind fun ys => _) = _
  congr 1
  funext ps
  congr 1
  funext items
  congr 1
  funext ys
  by_cases h : ys.length ≤ 100000 ∧ tgIn tg vs = true
  · rw [if_pos h, decide_eq_true h.1, h.2] <;> rfl
  · rw [if_neg h]
    cases q : (decide (ys.length ≤ 100000) && tgIn tg vs) with
    | false => rfl
    | true =>
      rw [Bool.and_eq_true, decide_eq_true_eq] at q
      exact absurd q h
theorem ev_lc2 {k : SK} {src : EXs} {tg : TgX} {t : QX} {k1 : SK} {src1 : EXs} {tg1 : TgX} {t1 : QX} {e : EX} {vs vs1 : List Nat} {ρ : Rho} : ev (.lc2 k src tg t k1 src1 tg1 t1 e vs vs1) ρ = (evs src ρ).bind fun ps => (srcF k ps).bind fun items => (lc2E tg t k1 src1 tg1 t1 e vs1 (wipeR ρ vs) items).bind fun ys =>
    bif decide (ys.length ≤ 100000) && (tgIn tg vs && tgIn tg1 vs1) then some ⟨.list (ys.map (·.1)), ys.all (·.2), true⟩ else none := by
  show ((evs src ρ).bind fun ps => (srcF k ps).bind fun items => (lc2E tg t k1 src1 tg1 t1 e vs1 (wipeR ρ vs) items).bind fun ys => _) = _
  congr 1
  funext ps
  congr 1
  funext items
  congr 1
  funext ys
  by_cases h : ys.length ≤ 100000 ∧ tgIn tg vs = true ∧ tgIn tg1 vs1 = true
  · rw [if_pos h, decide_eq_true h.1, h.2.1, h.2.2] <;> rfl
  · rw [if_neg h]
    cases c : (decide (ys.length ≤ 100000) && (tgIn tg vs && tgIn tg1 vs1)) with
    | false => rfl
    | true =>
      rw [Bool.and_eq_true, Bool.and_eq_true, decide_eq_true_eq] at c
      exact absurd c h
theorem evs_nil {ρ : Rho} : evs .nil ρ = some [] := id rfl
theorem evs_cons {e : EX} {es : EXs} {ρ : Rho} : evs (.cons e es) ρ = (ev e ρ).bind fun p => (evs es ρ).bind fun ps => some (p.pb :: ps) := by
  show ((ev e ρ).bind fun p => (evs es ρ).map _) = _
  congr 1
  funext p
  cases evs es ρ <;> rfl
theorem evP_no {ρ : Rho} : evP .no ρ = some none := id rfl
def intK (d : PyData) : Option (Option Int) := match d with
  | .int i => some (some i)
  | _ => none
theorem evP_at {e : EX} {ρ : Rho} : evP (.at e) ρ = (ev e ρ).bind fun p => intK p.d := id rfl
theorem intK_i {i : Int} : intK (.int i) = some (some i) := id rfl
theorem evQ_no {ρ : Rho} : evQ .no ρ = some true := id rfl
theorem evQ_at {t : TX} {ρ : Rho} : evQ (.at t) ρ = evT t ρ := id rfl
def tstK (d : PyData) : Option Bool := match d with
  | .bool b => some b
  | _ => none
theorem tstK_b {b : Bool} : tstK (.bool b) = some b := id rfl
theorem evT_val {e : EX} {ρ : Rho} : evT (.val e) ρ = (ev e ρ).bind fun p => tstK p.d := id rfl
theorem evT_and {a b : TX} {ρ : Rho} : evT (.and a b) ρ = (evT a ρ).bind fun c => bif c then evT b ρ else some false := by
  show ((evT a ρ).bind fun c => _) = _
  congr 1
  funext c
  cases c <;> rfl
theorem evT_or {a b : TX} {ρ : Rho} : evT (.or a b) ρ = (evT a ρ).bind fun c => bif c then some true else evT b ρ := by
  show ((evT a ρ).bind fun c => _) = _
  congr 1
  funext c
  cases c <;> rfl
theorem evT_not {a : TX} {ρ : Rho} : evT (.not a) ρ = (evT a ρ).bind fun c => some (!c) := by
  show (evT a ρ).map _ = _
  cases evT a ρ <;> rfl
/-! what is stored -/
theorem fl_t {d : PyData} : fl true d = true := id rfl
theorem fl_f {d : PyData} : fl false d = nol d := id rfl
theorem fl_i {n : Bool} {i : Int} : fl n (.int i) = true := by cases n <;> rfl
theorem fl_b {n b : Bool} : fl n (.bool b) = true := by cases n <;> rfl
theorem fl_n {n : Bool} : fl n .none = true := by cases n <;> rfl
theorem fl_s {n : Bool} {s : PySem.Str} : fl n (.str s) = true := by cases n <;> rfl
theorem fl_l {n : Bool} {ds : List PyData} : fl n (.list ds) = n := by cases n <;> rfl
theorem fl_u {n : Bool} {ds : List PyData} : fl n (.tuple ds) = (n || nolA ds) := by cases n <;> rfl
theorem pb_mk {d : PyData} {n t : Bool} : Rs.pb ⟨d, n, t⟩ = (d, fl n d) := id rfl
theorem asg_i {i : Nat} {M : List Nat} {ρ : RhoS} {k : Int} {n : Bool} : asgK (.nm i) M ρ ⟨.int k, n, false⟩ = some (.nx (ρ.set i (.fz (.int k, true)))) := by cases n <;> rfl
theorem asg_b {i : Nat} {M : List Nat} {ρ : RhoS} {k : Bool} {n : Bool} : asgK (.nm i) M ρ ⟨.bool k, n, false⟩ = some (.nx (ρ.set i (.fz (.bool k, true)))) := by cases n <;> rfl
theorem asg_s {i : Nat} {M : List Nat} {ρ : RhoS} {k : PySem.Str} {n : Bool} : asgK (.nm i) M ρ ⟨.str k, n, false⟩ = some (.nx (ρ.set i (.fz (.str k, true)))) := by cases n <;> rfl
theorem asg_n {i : Nat} {M : List Nat} {ρ : RhoS} {n : Bool} : asgK (.nm i) M ρ ⟨.none, n, false⟩ = some (.nx (ρ.set i (.fz (.none, true)))) := by cases n <;> rfl
theorem asg_l {i : Nat} {M : List Nat} {ρ : RhoS} {ds : List PyData} {n : Bool} : asgK (.nm i) M ρ ⟨.list ds, n, false⟩ = some (.nx ((frz M ρ).set i (.fz (.list ds, n)))) := by cases n <;> rfl
theorem asg_o {i : Nat} {M : List Nat} {ρ : RhoS} {ds : List PyData} {n : Bool} : asgK (.nm i) M ρ ⟨.list ds, n, true⟩ = some (.nx ((frz M ρ).set i (.ow ds n))) := id rfl
theorem asg_u {i : Nat} {M : List Nat} {ρ : RhoS} {ds : List PyData} {n : Bool} : asgK (.nm i) M ρ ⟨.tuple ds, n, false⟩ = some (.nx ((frz M ρ).set i (.fz (.tuple ds, fl n (.tuple ds))))) := id rfl
theorem asg_tp {is : List Nat} {M : List Nat} {ρ : RhoS} {ds : List PyData} {n : Bool} : asgK (.tp is) M ρ ⟨.tuple ds, n, false⟩ = (setTs is ds (fl n (.tuple ds)) (frz M ρ)).bind fun ρ' => some (.nx ρ') := by
  show (setTs is ds (fl n (.tuple ds)) (frz M ρ)).map _ = _
  cases setTs is ds (fl n (.tuple ds)) (frz M ρ) <;> rfl
theorem setTs_nil {n : Bool} {ρ : RhoS} : setTs [] [] n ρ = some ρ := id rfl
theorem setTs_cons {i : Nat} {is : List Nat} {d : PyData} {ds : List PyData} {n : Bool} {ρ : RhoS} : setTs (i :: is) (d :: ds) n ρ = setTs is ds n (ρ.set i (.fz (d, fl n d))) := id rfl
theorem bindTs_nil {n : Bool} {ρ : Rho} : bindTs [] [] n ρ = some ρ := id rfl
theorem bindTs_cons {i : Nat} {is : List Nat} {d : PyData} {ds : List PyData} {n : Bool} {ρ : Rho} : bindTs (i :: is) (d :: ds) n ρ = bindTs is ds n (ρ.set i (some (d, fl n d))) := id rfl
theorem bindS_nm {i : Nat} {p : PB} {ρ : RhoS} : bindS (.nm i) p ρ = some (ρ.set i (.fz p)) := id rfl
theorem bindS_tp {is : List Nat} {ds : List PyData} {n : Bool} {ρ : RhoS} : bindS (.tp is) (.tuple ds, n) ρ = setTs is ds n ρ := id rfl
theorem bindT_nm {i : Nat} {p : PB} {ρ : Rho} : bindT (.nm i) p ρ = some (ρ.set i (some p)) := id rfl
theorem bindT_tp {is : List Nat} {ds : List PyData} {n : Bool} {ρ : Rho} : bindT (.tp is) (.tuple ds, n) ρ = bindTs is ds n ρ := id rfl
theorem app_i {i : Nat} {M : List Nat} {ρ : RhoS} {k : Int} {n : Bool} : appK i M ρ ⟨.int k, n, false⟩ = appP i ρ (.int k) true := by cases n <;> rfl
theorem app_b {i : Nat} {M : List Nat} {ρ : RhoS} {k : Bool} {n : Bool} : appK i M ρ ⟨.bool k, n, false⟩ = appP i ρ (.bool k) true := by cases n <;> rfl
theorem app_l {i : Nat} {M : List Nat} {ρ : RhoS} {es : List PyData} {n t : Bool} : appK i M ρ ⟨.list es, n, t⟩ = appP i (frz M ρ) (.list es) n := by cases n <;> rfl
theorem app_u {i : Nat} {M : List Nat} {ρ : RhoS} {es : List PyData} {n t : Bool} : appK i M ρ ⟨.tuple es, n, t⟩ = appP i (frz M ρ) (.tuple es) (fl n (.tuple es)) := id rfl
theorem appP_go {i : Nat} {ρ : RhoS} {d : PyData} {n : Bool} : appP i ρ d n = (ρ[i]?).bind fun e => appE i ρ d n e := id rfl
/-! loops -/
def OkTo (P : RhoS → Prop) : Option Ot → Prop
  | some (.nx ρ) => P ρ
  | _ => False
theorem okTo_nx {P : RhoS → Prop} {ρ : RhoS} : OkTo P (some (.nx ρ)) = P ρ := id rfl
theorem okTo_iff {P : RhoS → Prop} {o : Option Ot} : OkTo P o ↔ ∃ ρ, o = some (.nx ρ) ∧ P ρ := by
  constructor
  · intro h
    cases o with
    | none => exact h.elim
    | some o =>
      cases o with
      | nx ρ => exact ⟨ρ, rfl, h⟩
      | ct ρ => exact h.elim
      | br ρ => exact h.elim
      | rt p => exact h.elim
  · rintro ⟨ρ, rfl, h⟩
    exact h
/-- one turn of a loop: the target is set, the body runs -/
def TurnOk (tg : TgX) (b : STs) (x : PB) (ρ : RhoS) (P : RhoS → Prop) : Prop := OkTo P ((bindS tg x ρ).bind fun ρ1 => execs b ρ1)
theorem turn_iff {tg : TgX} {b : STs} {x : PB} {ρ : RhoS} {P : RhoS → Prop} : TurnOk tg b x ρ P ↔ OkTo P ((bindS tg x ρ).bind fun ρ1 => execs b ρ1) := Iff.rfl
theorem turn_ex {tg : TgX} {b : STs} {x : PB} {ρ : RhoS} {P : RhoS → Prop} (h : TurnOk tg b x ρ P) : ∃ ρ1 ρ2, bindS tg x ρ = some ρ1 ∧ execs b ρ1 = some (.nx ρ2) ∧ P ρ2 := by
  unfold TurnOk at h
  obtain ⟨ρ2, h1, h2⟩ := okTo_iff.mp h
  obtain ⟨ρ1, h3, h4⟩ := Option.bind_eq_some_iff.mp h1
  exact ⟨ρ1, ρ2, h3, h4, h2⟩
/-- from turn to turn; what is known of the items may be used -/
theorem forE_mem {α β : Type} {tg : TgX} {b : STs} {g : α → PB} {f : β → α → β} (Iv : β → RhoS → Prop) : ∀ (items : List α) (_ : ∀ (x : β) (a : α) (ρ : RhoS), a ∈ items → Iv x ρ → TurnOk tg b (g a) ρ (Iv (f x a))) (x : β) (ρ : RhoS),
    Iv x ρ → ∃ ρ', forE tg b (items.map g) ρ = some (.nx ρ') ∧ Iv (items.foldl f x) ρ'
  | [], _, x, ρ, i => ⟨ρ, rfl, i⟩
  | a :: items, h, x, ρ, i => by
    obtain ⟨ρ1, ρ2, h1, h2, h3⟩ := turn_ex (h x a ρ List.mem_cons_self i)
    obtain ⟨ρ', e, i'⟩ := forE_mem Iv items (fun x a ρ m => h x a ρ (List.mem_cons_of_mem _ m)) (f x a) ρ2 h3
    refine ⟨ρ', ?_, i'⟩
    unfold forE at e ⊢
    rw [List.map_cons]
    unfold forGo
    rw [h1]
    show (execs b ρ1).bind _ = _
    rw [h2]
    exact e
/-- .. by the number of the turn -/
theorem forE_ix {α : Type} {tg : TgX} {b : STs} {g : α → PB} {items : List α} (Iv : Nat → RhoS → Prop) (h : ∀ (i : Nat) (a : α) (ρ : RhoS), items[i]? = some a → Iv i ρ → TurnOk tg b (g a) ρ (Iv (i + 1))) (ρ : RhoS) (h0 : Iv 0 ρ) :
    ∃ ρ', forE tg b (items.map g) ρ = some (.nx ρ') ∧ Iv items.length ρ' := by
  have key : ∀ (k : Nat) (ρ : RhoS), k ≤ items.length → Iv k ρ → ∃ ρ', forE tg b ((items.drop k).map g) ρ = some (.nx ρ') ∧ Iv items.length ρ' := by
    intro k
    induction hm : items.length - k generalizing k with
    | zero =>
      intro ρ hk i
      have e : k = items.length := by omega
      subst e
      rw [List.drop_length]
      exact ⟨ρ, rfl, i⟩
    | succ m ih =>
      intro ρ hk i
      have hlt : k < items.length := by omega
      obtain ⟨ρ1, ρ2, h1, h2, h3⟩ := turn_ex (h k _ ρ (List.getElem?_eq_getElem hlt) i)
      obtain ⟨ρ', e, i'⟩ := ih (k + 1) (by omega) ρ2 hlt h3
      refine ⟨ρ', ?_, i'⟩
      rw [List.drop_eq_getElem_cons hlt, List.map_cons]
      unfold forE at e ⊢
      unfold forGo
      rw [h1]
      show (execs b ρ1).bind _ = _
      rw [h2]
      exact e
  exact key 0 ρ (Nat.zero_le _) h0
/-- a loop that ends by a return, or goes on -/
def EndsOr (p : PB) (bad : Bool) (P : RhoS → Prop) (o : Option Ot) : Prop := (bad = true ∧ o = some (.rt p)) ∨ (bad = false ∧ OkTo P o)
theorem forE_find {α : Type} {tg : TgX} {b : STs} {g : α → PB} {p : PB} (Iv : RhoS → Prop) (bad : α → Bool) : ∀ (items : List α) (_ : ∀ (a : α) (ρ : RhoS), a ∈ items → Iv ρ → EndsOr p (bad a) Iv ((bindS tg (g a) ρ).bind fun ρ1 => execs b ρ1)) (ρ : RhoS),
    Iv ρ → EndsOr p (items.any bad) Iv (forE tg b (items.map g) ρ)
  | [], _, ρ, i => .inr ⟨rfl, i⟩
  | a :: items, h, ρ, i => by
    have ha := h a ρ List.mem_cons_self i
    rw [List.map_cons, List.any_cons]
    unfold forE
    unfold forGo
    rcases ha with ⟨h1, h2⟩ | ⟨h1, h2⟩
    · obtain ⟨ρ1, h3, h4⟩ := Option.bind_eq_some_iff.mp h2
      rw [h1, h3]
      refine .inl ⟨rfl, ?_⟩
      show (execs b ρ1).bind _ = _
      rw [h4] <;> rfl
    · obtain ⟨ρ2, h5, h6⟩ := okTo_iff.mp h2
      obtain ⟨ρ1, h3, h4⟩ := Option.bind_eq_some_iff.mp h5
      have ih := forE_find Iv bad items (fun a ρ m => h a ρ (List.mem_cons_of_mem _ m)) ρ2 h6
      rw [h1, h3, Bool.false_or]
      show EndsOr p _ Iv ((execs b ρ1).bind _)
      rw [h4]
      exact ih
/-- one item of a comprehension: kept or not, what it gives -/
def ItemOk (tg : TgX) (t : QX) (e : EX) (x : PB) (ρ0 : Rho) (bt : Bool) (out : PB) : Prop := ∃ ρ, bindT tg x ρ0 = some ρ ∧ evQ t ρ = some bt ∧ (bt = true → (ev e ρ).map Rs.pb = some out)
theorem item_ok {tg : TgX} {t : QX} {e : EX} {x : PB} {ρ0 ρ : Rho} {bt : Bool} {out : PB} (h1 : bindT tg x ρ0 = some ρ) (h2 : evQ t ρ = some bt) (h3 : bt = true → (ev e ρ).bind (fun r => some r.pb) = some out) : ItemOk tg t e x ρ0 bt out := ⟨ρ, h1, h2, fun h => by
  have := h3 h
  cases q : ev e ρ with
  | none =>
    rw [q] at this
    cases this
  | some r =>
    rw [q] at this
    exact this⟩
theorem lcE_map {α : Type} {tg : TgX} {t : QX} {e : EX} {ρ0 : Rho} {g : α → PB} (bt : α → Bool) (out : α → PB) : ∀ (items : List α) (_ : ∀ a ∈ items, ItemOk tg t e (g a) ρ0 (bt a) (out a)),
    lcE tg t e ρ0 (items.map g) = some ((items.filter bt).map out)
  | [], _ => rfl
  | a :: items, h => by
    obtain ⟨ρ, h1, h2, h3⟩ := h a List.mem_cons_self
    have ih := lcE_map bt out items fun a m => h a (List.mem_cons_of_mem _ m)
    unfold lcE at ih ⊢
    rw [List.map_cons]
    unfold lcGo
    rw [h1]
    show (evQ t ρ).bind _ = _
    rw [h2]
    show (if bt a = true then _ else _) = _
    rw [List.filter_cons]
    cases c : bt a with
    | true =>
      obtain ⟨r, h4, h5⟩ := Option.map_eq_some_iff.mp (h3 c)
      rw [if_pos rfl, if_pos rfl]
      show (ev e ρ).bind _ = _
      rw [h4]
      show (lcGo _ _ _ _ _).map _ = _
      rw [ih, List.map_cons, ← h5] <;> rfl
    | false =>
      rw [if_neg Bool.false_ne_true, if_neg Bool.false_ne_true]
      exact ih
/-- a comprehension with two clauses, item by item -/
theorem lc2E_map {α : Type} {tg : TgX} {t : QX} {k1 : SK} {src1 : EXs} {tg1 : TgX} {t1 : QX} {e : EX} {vs1 : List Nat} {ρ0 : Rho} {g : α → PB} (out : α → List PB) : ∀ (items : List α) (_ : ∀ a ∈ items, ∃ ρ qs its, bindT tg (g a) ρ0 = some ρ ∧ evQ t ρ = some true ∧ evs src1 ρ = some qs ∧ srcF k1 qs = some its ∧ lcE tg1 t1 e (wipeR ρ vs1) its = some (out a)),
    lc2E tg t k1 src1 tg1 t1 e vs1 ρ0 (items.map g) = some (items.flatMap out)
  | [], _ => rfl
  | a :: items, h => by
    obtain ⟨ρ, qs, its, h1, h2, h3, h4, h5⟩ := h a List.mem_cons_self
    have ih := lc2E_map (tg := tg) (t := t) (k1 := k1) (src1 := src1) (tg1 := tg1) (t1 := t1) (e := e) (vs1 := vs1) (ρ0 := ρ0) (g := g) out items fun a m => h a (List.mem_cons_of_mem _ m)
    unfold lc2E at ih ⊢
    rw [List.map_cons, List.flatMap_cons]
    show (bindT tg (g a) ρ0).bind _ = _
    rw [h1]
    show (evQ t ρ).bind _ = _
    rw [h2]
    show (((evs src1 ρ).bind fun qs => srcF k1 qs)).bind _ = _
    rw [h3]
    show (srcF k1 qs).bind _ = _
    rw [h4]
    show (lcE tg1 t1 e (wipeR ρ vs1) its).bind _ = _
    rw [h5]
    show (lc2Go _ _ _ _ _ _ _ _ _).map _ = _
    rw [ih] <;> rfl
theorem lcE_all {α : Type} {tg : TgX} {e : EX} {ρ0 : Rho} {g : α → PB} (out : α → PB) (items : List α) (h : ∀ a ∈ items, ItemOk tg .no e (g a) ρ0 true (out a)) :
    lcE tg .no e ρ0 (items.map g) = some (items.map out) := by
  have z := lcE_map (tg := tg) (t := .no) (e := e) (ρ0 := ρ0) (g := g) (fun _ => true) out items h
  rw [List.filter_eq_self.mpr fun _ _ => rfl] at z
  exact z
theorem whlE_rel {c : TX} {b : STs} (Iv : Nat → RhoS → Prop) (h : ∀ (m : Nat) (ρ : RhoS), Iv m ρ → ∃ k, evT c (view (vT c) ρ) = some k ∧ (k = true → OkTo (fun ρ2 => ∃ m2, m2 < m ∧ Iv m2 ρ2) (execs b ρ)) ∧ (k = false → Iv 0 ρ)) :
    ∀ (f m : Nat) (ρ : RhoS), m < f → Iv m ρ → ∃ ρ', whlE c b f ρ = some (.nx ρ') ∧ Iv 0 ρ' ∧ evT c (view (vT c) ρ') = some false
  | 0, _, _, hf, _ => absurd hf (Nat.not_lt_zero _)
  | f + 1, m, ρ, hf, i => by
    obtain ⟨k, h1, h2, h3⟩ := h m ρ i
    unfold whlE whlGo
    rw [h1]
    show ∃ ρ', (if k = true then _ else _) = _ ∧ _
    cases k with
    | false =>
      rw [if_neg Bool.false_ne_true]
      exact ⟨ρ, rfl, h3 rfl, h1⟩
    | true =>
      rw [if_pos rfl]
      obtain ⟨ρ2, e, m2, hm, i2⟩ := okTo_iff.mp (h2 rfl)
      obtain ⟨ρ', e', r⟩ := whlE_rel Iv h f m2 ρ2 (by omega) i2
      refine ⟨ρ', ?_, r⟩
      rw [e]
      exact e'
end Un

set_option maxRecDepth 100000
set_option maxHeartbeats 4000000
namespace Un
open PySem PySem.Spec PyProof.Rows L2
def b2i (b : Bool) : Int := if b = true then 1 else 0
theorem b2i_t : b2i true = 1 := id rfl
theorem b2i_f : b2i false = 0 := id rfl
theorem bif_of {α : Type} {c : Prop} [Decidable c] {a b : α} : (if c then a else b) = bif decide c then a else b := by
  by_cases h : c
  · rw [if_pos h, decide_eq_true h] <;> rfl
  · rw [if_neg h, decide_eq_false h] <;> rfl
section
variable {n m : Bool} {i j : Int} {ds es : List PyData}
theorem add_i : Op2.f .add (.int i, n) (.int j, m) = some ⟨.int (i + j), true, false⟩ := id rfl
theorem add_l : Op2.f .add (.list ds, n) (.list es, m) = bif decide (ds.length + es.length ≤ 100000) then some ⟨.list (ds ++ es), n && m, true⟩ else none := bif_of
theorem sub_i : Op2.f .sub (.int i, n) (.int j, m) = some ⟨.int (i - j), true, false⟩ := id rfl
theorem mul_i : Op2.f .mul (.int i, n) (.int j, m) = bif decide (CMul i j) then some ⟨.int (i * j), true, false⟩ else none := bif_of
theorem mul_l : Op2.f .mul (.list ds, n) (.int i, m) = bif decide (-(2 ^ 63) ≤ i ∧ i < 2 ^ 63 ∧ ds.length * i.toNat ≤ 100000) then some ⟨.list (List.replicate i.toNat ds).flatten, n, true⟩ else none := bif_of
theorem mul_lb {c : Bool} : Op2.f .mul (.list [.list ds], n) (.int (b2i c), m) = some ⟨.list (bif c then [.list ds] else []), n, true⟩ := by cases c <;> rfl
theorem mul_tb {c : Bool} : Op2.f .mul (.list [.tuple ds], n) (.int (b2i c), m) = some ⟨.list (bif c then [.tuple ds] else []), n, true⟩ := by cases c <;> rfl
theorem mul_ib {c : Bool} : Op2.f .mul (.list [.int i], n) (.int (b2i c), m) = some ⟨.list (bif c then [.int i] else []), n, true⟩ := by cases c <;> rfl
theorem mod_i : Op2.f .mod (.int i, n) (.int j, m) = bif decide (0 < j) then some ⟨.int (i % j), true, false⟩ else none := bif_of
theorem fdiv_i : Op2.f .fdiv (.int i, n) (.int j, m) = bif decide (CDiv i j) then some ⟨.int (i / j), true, false⟩ else none := bif_of
theorem eq_d {p q : PB} : Op2.f .eq p q = bif (SeqAt.shaped p.1 && SeqAt.shaped q.1) then some ⟨.bool (PyData.eqv p.1 q.1), true, false⟩ else strEq false p.1 q.1 := by
  show (if (SeqAt.shaped p.1 && SeqAt.shaped q.1) = true then _ else _) = _
  cases (SeqAt.shaped p.1 && SeqAt.shaped q.1) <;> rfl
theorem ne_d {p q : PB} : Op2.f .ne p q = bif (SeqAt.shaped p.1 && SeqAt.shaped q.1) then some ⟨.bool (!PyData.eqv p.1 q.1), true, false⟩ else strEq true p.1 q.1 := by
  show (if (SeqAt.shaped p.1 && SeqAt.shaped q.1) = true then _ else _) = _
  cases (SeqAt.shaped p.1 && SeqAt.shaped q.1) <;> rfl
theorem eqv_ii : PyData.eqv (.int i) (.int j) = decide (i = j) := by
  show (i == j) = _
  by_cases h : i = j
  · subst h
    rw [decide_eq_true rfl]
    simp
  · rw [decide_eq_false h]
    exact beq_eq_false_iff_ne.mpr h
theorem shaped_i : SeqAt.shaped (.int i) = true := id rfl
theorem shaped_n : SeqAt.shaped .none = true := id rfl
theorem shaped_b {b : Bool} : SeqAt.shaped (.bool b) = true := id rfl
theorem eq_i : Op2.f .eq (.int i, n) (.int j, m) = some ⟨.bool (decide (i = j)), true, false⟩ := by
  rw [eq_d]
  show some _ = _
  rw [eqv_ii]
theorem ne_i : Op2.f .ne (.int i, n) (.int j, m) = some ⟨.bool (!decide (i = j)), true, false⟩ := by
  rw [ne_d]
  show some _ = _
  rw [eqv_ii]
theorem lt_i : Op2.f .lt (.int i, n) (.int j, m) = some ⟨.bool (decide (i < j)), true, false⟩ := id rfl
theorem le_i : Op2.f .le (.int i, n) (.int j, m) = some ⟨.bool (decide (i ≤ j)), true, false⟩ := id rfl
theorem gt_i : Op2.f .gt (.int i, n) (.int j, m) = some ⟨.bool (decide (j < i)), true, false⟩ := id rfl
theorem ge_i : Op2.f .ge (.int i, n) (.int j, m) = some ⟨.bool (decide (j ≤ i)), true, false⟩ := id rfl
theorem in_l {d : PyData} : Op2.f .isin (d, n) (.list ds, m) = bif (SeqAt.shaped d && SeqAt.shaped (.list ds)) then some ⟨.bool (ds.any fun z => PyData.eqv z d), true, false⟩ else none := by
  have h : Op2.f .isin (d, n) (.list ds, m) = (if (SeqAt.shaped d && SeqAt.shaped (.list ds)) = true then some (sc (.bool ((ds.any fun z => PyData.eqv z d)))) else none) := by cases d <;> rfl
  rw [h]
  cases (SeqAt.shaped d && SeqAt.shaped (.list ds)) <;> rfl
theorem notin_l {d : PyData} : Op2.f .notin (d, n) (.list ds, m) = bif (SeqAt.shaped d && SeqAt.shaped (.list ds)) then some ⟨.bool (!ds.any fun z => PyData.eqv z d), true, false⟩ else none := by
  have h : Op2.f .notin (d, n) (.list ds, m) = (if (SeqAt.shaped d && SeqAt.shaped (.list ds)) = true then some (sc (.bool (!(ds.any fun z => PyData.eqv z d)))) else none) := by cases d <;> rfl
  rw [h]
  cases (SeqAt.shaped d && SeqAt.shaped (.list ds)) <;> rfl
theorem in_u {a b : Int} : Op2.f .isin (.int i, n) (.tuple [.int a, .int b], m) = some ⟨.bool (decide (a = i) || decide (b = i)), true, false⟩ := by
  show some (sc (.bool (PyData.eqv (.int a) (.int i) || (PyData.eqv (.int b) (.int i) || false)))) = _
  rw [eqv_ii, eqv_ii, Bool.or_false] <;> rfl
theorem notin_u {a b : Int} : Op2.f .notin (.int i, n) (.tuple [.int a, .int b], m) = some ⟨.bool (!(decide (a = i) || decide (b = i))), true, false⟩ := by
  show some (sc (.bool (!(PyData.eqv (.int a) (.int i) || (PyData.eqv (.int b) (.int i) || false))))) = _
  rw [eqv_ii, eqv_ii, Bool.or_false] <;> rfl
theorem isN_d {d : PyData} : Op2.f .isN (d, n) (.none, m) = some ⟨.bool (isNoneD d), true, false⟩ := by cases d <;> rfl
theorem notN_d {d : PyData} : Op2.f .notN (d, n) (.none, m) = some ⟨.bool (!isNoneD d), true, false⟩ := by cases d <;> rfl
theorem ix_l : Op2.f .ix (.list ds, n) (.int i, m) = (atI ds i).bind fun d => some ⟨d, n, false⟩ := by
  show (atI ds i).map _ = _
  cases atI ds i <;> rfl
theorem ix_u : Op2.f .ix (.tuple ds, n) (.int i, m) = (atI ds i).bind fun d => some ⟨d, n, false⟩ := by
  show (atI ds i).map _ = _
  cases atI ds i <;> rfl
theorem neg_i : Op1.f .neg (.int i, n) = some ⟨.int (-i), true, false⟩ := id rfl
theorem len_l : OpN.f .len [(.list ds, n)] = some ⟨.int ds.length, true, false⟩ := id rfl
theorem len_u : OpN.f .len [(.tuple ds, n)] = some ⟨.int ds.length, true, false⟩ := id rfl
theorem min2_i : OpN.f .min2 [(.int i, n), (.int j, m)] = some ⟨.int (if j < i then j else i), true, false⟩ := id rfl
theorem max2_i : OpN.f .max2 [(.int i, n), (.int j, m)] = some ⟨.int (if j > i then j else i), true, false⟩ := id rfl
theorem int_i : OpN.f .int [(.int i, n)] = some ⟨.int i, true, false⟩ := id rfl
theorem int_b {b : Bool} : OpN.f .int [(.bool b, n)] = some ⟨.int (b2i b), true, false⟩ := id rfl
theorem list_l : OpN.f .list [(.list ds, n)] = some ⟨.list ds, n, true⟩ := id rfl
theorem list_u : OpN.f .list [(.tuple ds, n)] = some ⟨.list ds, n, true⟩ := id rfl
theorem tuple_l : OpN.f .tuple [(.list ds, n)] = some ⟨.tuple ds, n, false⟩ := id rfl
theorem tuple_u : OpN.f .tuple [(.tuple ds, n)] = some ⟨.tuple ds, n, false⟩ := id rfl
theorem abs_i : OpN.f .abs [(.int i, n)] = some ⟨.int (if i < 0 then -i else i), true, false⟩ := id rfl
theorem sum_l {ns : List Int} : OpN.f .sum [(.list (ns.map PyData.int), n)] = some ⟨.int ns.sum, true, false⟩ := by
  show (intsL _).map _ = _
  rw [intsL_map] <;> rfl
theorem any_l {bs : List Bool} : OpN.f .any [(.list (bs.map PyData.bool), n)] = some ⟨.bool (bs.any id), true, false⟩ := by
  show (boolsL _).map _ = _
  rw [boolsL_map] <;> rfl
theorem all_l {bs : List Bool} : OpN.f .all [(.list (bs.map PyData.bool), n)] = some ⟨.bool (bs.all id), true, false⟩ := by
  show (boolsL _).map _ = _
  rw [boolsL_map] <;> rfl
theorem minL_l {ns : List Int} : OpN.f .minL [(.list (ns.map PyData.int), n)] = bif decide (0 < ns.length) then some ⟨.int (minI ns), true, false⟩ else none := by
  show (intsL _).bind _ = _
  rw [intsL_map]
  exact bif_of
theorem sorted_l {ns : List Int} : OpN.f .sorted [(.list (ns.map PyData.int), n)] = some ⟨.list ((srtI ns).map PyData.int), true, true⟩ := by
  show sortF (ns.map PyData.int) = _
  unfold sortF
  rw [intsL_map]
theorem sorted_p {es : List (Int × Int)} : OpN.f .sorted [(.list (es.map dP), n)] = some ⟨.list ((srtP es).map dP), true, true⟩ := by
  show sortF (es.map dP) = _
  unfold sortF
  cases es with
  | nil => rfl
  | cons e es =>
    rw [prsL_map] <;> rfl
theorem idx_l {ds : List PyData} {d : PyData} {m : Bool} (h1 : SeqAt.shaped d = true) (h2 : SeqAt.shaped (.list ds) = true) : idxF (.list ds, n) (d, m) = (ds.findIdx? fun z => PyData.eqv z d).map fun (j : Nat) => sc (.int (j : Int)) := by
  show (if (SeqAt.shaped d && SeqAt.shaped (.list ds)) = true then _ else _) = _
  rw [h1, h2] <;> rfl
theorem sumL_l {xss : List (List PyData)} : OpN.f .sumL [(.list (xss.map PyData.list), n), (.list [], m)] = bif decide (xss.flatten.length ≤ 100000) then some ⟨.list xss.flatten, n && m, false⟩ else none := by
  show (rowsL _).bind _ = _
  rw [rowsL_map]
  exact bif_of
theorem repr_l : OpN.f .repr [(.list ds, n)] = bif reprB (.list ds) then some ⟨.str (PyData.shown (.list ds)), true, false⟩ else none := by
  show (if reprB (.list ds) = true then _ else _) = _
  cases reprB (.list ds) <;> rfl
theorem src_l : srcF .list [(.list ds, n)] = some (ds.map fun d => (d, fl n d)) := id rfl
theorem src_u : srcF .list [(.tuple ds, n)] = some (ds.map fun d => (d, fl n d)) := id rfl
theorem src_1 : srcF .rng1 [(.int i, n)] = bif decide (-(2 ^ 62) ≤ i ∧ i < 2 ^ 62) then some (rngL 0 i.toNat) else none := bif_of
theorem src_2 : srcF .rng2 [(.int i, n), (.int j, m)] = bif decide (-(2 ^ 62) ≤ i ∧ i < 2 ^ 62 ∧ -(2 ^ 62) ≤ j ∧ j < 2 ^ 62) then some (rngL i (j - i).toNat) else none := bif_of
theorem lz_l : lzF (.list ds, n) (.list es, m) = some ⟨.list ((zipL (n && m) ds es).map (·.1)), (n && m) || (nolA ds && nolA es), true⟩ := id rfl
theorem src_e : srcF .enm [(.list ds, n)] = some (enmL n 0 ds) := id rfl
theorem src_z : srcF .zip [(.list ds, n), (.list es, m)] = some (zipL (n && m) ds es) := id rfl
theorem setI_ow {ρ : RhoS} {k : Nat} {p : PB} (h : ρ[k]? = some (.ow ds n)) : setI ρ k (.int i) p = (ixN ds.length i).bind fun j => some (ρ.set k (.ow (ds.set j p.1) (n && p.2))) := by
  unfold setI
  rw [h]
  show (ixN ds.length i).map _ = _
  cases ixN ds.length i <;> rfl
theorem augK_i {ρ : RhoS} {k : Nat} {o : AugOp} (h : ρ[k]? = some (.fz (.int i, n))) : augK k o ρ ⟨.int j, m, false⟩ = some (.nx (ρ.set k (.fz (.int (o.f i j), true)))) := by
  unfold augK
  rw [h]
end
theorem rgB_small {a b : Int} (h0 : 0 ≤ a) (h1 : a ≤ 60000) (h2 : 0 ≤ b) (h3 : b ≤ 60000) : rgB a b = true := by
  unfold rgB
  refine decide_eq_true ?_
  refine ⟨by omega, by omega, by omega, by omega, by omega⟩
theorem atI_d {α : Type} {xs : List α} {j : Nat} {d : α} (h : xs[j]? = some d) : atI xs (j : Int) = some d := atI_nat h
/-- runZ with what is known of the arguments' number -/
theorem runZ_go {np ns : Nat} {b : STs} {args : List PyData} {p : PB} (h : args.length = np) (e : execs b ((args.map fun d => En.fz (d, nol d)) ++ List.replicate (ns - np) .no) = some (.rt p)) : runZ np ns b args = some p := by
  unfold runZ
  rw [if_pos h, e] <;> rfl
end Un
namespace Un
open PySem PySem.Spec PyProof.Rows L2
theorem getR_set {ρ : Rho} {i j : Nat} {x : Option PB} : getR (ρ.set i x) j = bif i == j then (bif decide (i < ρ.length) then x else none) else getR ρ j := by
  unfold getR
  rw [List.getElem?_set]
  by_cases h : i = j
  · subst h
    rw [if_pos rfl, beq_self_eq_true]
    by_cases hl : i < ρ.length
    · rw [if_pos hl, decide_eq_true hl]
      cases x <;> rfl
    · rw [if_neg hl, decide_eq_false hl] <;> rfl
  · rw [if_neg h, beq_eq_false_iff_ne.mpr h] <;> rfl
theorem view_len {M : List Nat} {ρ : RhoS} : (view M ρ).length = ρ.length := by
  unfold view
  rw [List.length_mapIdx]
theorem comp_go {α β γ : Type} (f : β → γ) (g : α → β) (x : α) : (f ∘ g) x = f (g x) := id rfl
theorem ixN_at {n : Nat} {c : Int} (h0 : 0 ≤ c) (h : c < n) : ixN n c = some c.toNat := by
  unfold ixN
  rw [if_pos h0, if_pos h]
theorem bnd_s {α β : Type} {x : α} {f : α → Option β} : (some x).bind f = f x := id rfl
theorem bnd_n {α β : Type} {f : α → Option β} : (none : Option α).bind f = none := id rfl
theorem cnd_t {α : Type} {a b : α} : (bif true then a else b) = a := id rfl
theorem cnd_f {α : Type} {a b : α} : (bif false then a else b) = b := id rfl
theorem frzA_any {M : List Nat} {i : Nat} {e : En} {ρ : RhoS} : frzA M i (e :: ρ) = frAt M i e :: frzA M (i + 1) ρ := id rfl
theorem frAt_fz {M : List Nat} {i : Nat} {p : PB} : frAt M i (.fz p) = .fz p := id rfl
theorem frAt_od {M : List Nat} {i : Nat} {p : PB} : frAt M i (.od p) = .od p := id rfl
theorem frAt_no {M : List Nat} {i : Nat} : frAt M i .no = .no := id rfl
theorem frAt_ow {M : List Nat} {i : Nat} {ds : List PyData} {n : Bool} : frAt M i (.ow ds n) = bif M.contains i then .fz (.list ds, n) else .ow ds n := by
  show (if M.contains i = true then _ else _) = _
  cases M.contains i <;> rfl
theorem frAt_nil {i : Nat} {e : En} : frAt [] i e = e := by cases e <;> rfl
theorem all_tt {α : Type} {xs : List α} : xs.all (fun _ => true) = true := List.all_eq_true.mpr fun _ _ => rfl
theorem comp_d {α β γ : Type} (f : β → γ) (g : α → β) : f ∘ g = fun x => f (g x) := id rfl
theorem all_mp {α β : Type} {f : α → β} {p : β → Bool} {xs : List α} : (xs.map f).all p = xs.all fun x => p (f x) := List.all_map
theorem bif_d {α : Type} {c : Prop} [Decidable c] {a b : α} : (bif decide c then a else b) = if c then a else b := bif_of.symm
end Un

set_option maxRecDepth 100000
set_option maxHeartbeats 4000000
namespace Un
open PySem PySem.Spec PyProof.Rows L2
/-! ### a def that changes a list which it was given new -/
def STs.app : STs → STs → STs
  | .nil, b => b
  | .one s, b => .cons s b
  | .cons s ss, b => .cons s (ss.app b)
theorem tss_app {K : PySem.W.Frag} : ∀ (a b : STs), tss K (a.app b) = tSeq (tss K a) (tss K b)
  | .nil, b => rfl
  | .one s, b => rfl
  | .cons s ss, b => by
    show tSeq (ts K s) (tss K (ss.app b)) = _
    rw [tss_app ss b] <;> rfl
def reE : En → En
  | .no => .no
  | .fz p => .od (p.1, nol p.1)
  | .ow ds _ => .od (.list ds, false)
  | .od p => .od (p.1, nol p.1)
def leE : En → En
  | .no => .no
  | .fz p => bif isSc p.1 then .fz p else .no
  | .ow _ _ => .no
  | .od p => .od (p.1, nol p.1)
/-- what may be done to a list that was given new -/
def mutB (o e : EX) (ρ : RhoS) : Option Unit := (ev o (view (vE o) ρ)).bind fun r => (ev e (view (vE e) ρ)).bind fun q => match r with
  | ⟨.list ds, true, false⟩ => bif isSc q.d && decide (ds.length < 100000) then some () else none
  | _ => none
def endZ : Ot → Option PB
  | .rt p => some p
  | .nx _ => some (.none, true)
  | _ => none
def thenZ (o : Ot) (k : RhoS → Option PB) : Option PB := match o with
  | .rt p => some p
  | .nx ρ => k ρ
  | _ => none
def runM (np ns : Nat) (b1 b2 : STs) (o e : EX) (b3 : STs) : FnZ := fun args => if args.length = np then
  (execs b1 ((args.map fun d => .fz (d, nol d)) ++ List.replicate (ns - np) .no)).bind fun o1 => thenZ o1 fun ρ1 =>
    (execs b2 (ρ1.map reE)).bind fun o2 => thenZ o2 fun ρ2 => (mutB o e ρ2).bind fun _ => (execs b3 (ρ2.map leE)).bind endZ else none
section
variable {K : PySem.W.Frag} {G0 H0 F H : Hp} {σ : L2.St} {ρ : RhoS}
theorem rp_nol {Z Z' : Addr → Prop} {G : Hp} {v : V} {d : PyData} (h : Rp Z G v d) : Rp (zz Z' (nol d)) G v d := by
  cases q : nol d with
  | true => exact h.nol q
  | false => exact h.mono (fun a _ => zz_weak rfl a) (Same.refl _)
theorem RepS.mark (h : RepS G0 H0 F H σ ρ) : ∃ F', Grow G0 H0 F' H ∧ RepS F' H F' H σ (ρ.map reE) := by
  obtain ⟨G, fg, gh, rep, own⟩ := h.opened (List.range ρ.length)
  refine ⟨G, ⟨h.gr.sH, h.gr.sG.trans fg, gh, fun b e1 e2 => ?_⟩, Grow.refl gh, by rw [List.length_map]; exact h.len, fun i p e => ?_, fun i ds n e => ?_, fun i j l ds es n m e1 _ _ _ => ?_, fun i p e => ?_⟩
  · cases q : G b with
    | none => rfl
    | some o =>
      rcases own b (by rw [q]; exact fun z => nomatch z) with z | ⟨i, ds, n, _, k1, k2⟩
      · exact absurd (h.gr.nw b e1 e2) z
      · obtain ⟨l, xs, a1, a2, _⟩ := h.ow i ds n k1
        rw [k2] at a1
        cases a1
        exact absurd a2 e1
  · rw [List.getElem?_map] at e
    obtain ⟨e0, h1, h2⟩ := Option.map_eq_some_iff.mp e
    cases e0 <;> cases h2
  · rw [List.getElem?_map] at e
    obtain ⟨e0, h1, h2⟩ := Option.map_eq_some_iff.mp e
    cases e0 <;> cases h2
  · rw [List.getElem?_map] at e1
    obtain ⟨e0, h1, h2⟩ := Option.map_eq_some_iff.mp e1
    cases e0 <;> cases h2
  · rw [List.getElem?_map] at e
    obtain ⟨e0, h1, h2⟩ := Option.map_eq_some_iff.mp e
    cases e0 with
    | no => cases h2
    | fz q =>
      cases h2
      obtain ⟨v, a, r⟩ := h.fz i _ h1
      exact ⟨v, a, rp_nol (r.same fg)⟩
    | od q =>
      cases h2
      obtain ⟨v, a, r⟩ := h.od i _ h1
      exact ⟨v, a, rp_nol (r.same (h.gr.sG.trans fg))⟩
    | ow ds n =>
      cases h2
      obtain ⟨v, a, r⟩ := rep.at_ i (.list ds, n) (by
        unfold view
        rw [List.getElem?_mapIdx, h1]
        show some (if (List.range ρ.length).contains i = true then some ((PyData.list ds, n) : PB) else none) = _
        rw [if_pos (by rw [List.contains_iff_mem]; exact List.mem_range.mpr (List.getElem?_eq_some_iff.mp h1).1)])
      exact ⟨v, a, rp_nol r⟩
theorem RepS.left (h : RepS G0 H0 F H σ ρ) {a : Addr} {o : HO} (ha : H0 a = none) (gh0 : Same G0 H0) : RepS G0 (upd H a o) G0 (upd H a o) σ (ρ.map leE) := by
  have s : Same G0 (upd H a o) := fun c u e => by
    have e' := gh0 _ _ e
    have ne : c ≠ a := fun z => by rw [z, ha] at e'; cases e'
    rw [upd_ne ne]
    exact h.gr.sH _ _ e'
  refine ⟨Grow.refl s, by rw [List.length_map]; exact h.len, fun i p e => ?_, fun i ds n e => ?_, fun i j l ds es n m e1 _ _ _ => ?_, fun i p e => ?_⟩
  · rw [List.getElem?_map] at e
    obtain ⟨e0, h1, h2⟩ := Option.map_eq_some_iff.mp e
    cases e0 with
    | no => cases h2
    | fz q =>
      have h2 : (bif isSc q.1 then En.fz q else En.no) = En.fz p := h2
      cases hs : isSc q.1 with
      | true =>
        rw [hs] at h2
        cases h2
        obtain ⟨v, a, r⟩ := h.fz i _ h1
        refine ⟨v, a, ?_⟩
        rw [sc_rp r hs]
        exact rp_sc hs
      | false =>
        rw [hs] at h2
        cases h2
    | od q => cases h2
    | ow ds n => cases h2
  · rw [List.getElem?_map] at e
    obtain ⟨e0, h1, h2⟩ := Option.map_eq_some_iff.mp e
    cases e0 with
    | fz q =>
      have h2 : (bif isSc q.1 then En.fz q else En.no) = En.ow ds n := h2
      cases hs : isSc q.1 <;> rw [hs] at h2 <;> cases h2
    | no => cases h2
    | od q => cases h2
    | ow ds n => cases h2
  · rw [List.getElem?_map] at e1
    obtain ⟨e0, h1, h2⟩ := Option.map_eq_some_iff.mp e1
    cases e0 with
    | fz q =>
      have h2 : (bif isSc q.1 then En.fz q else En.no) = En.ow ds n := h2
      cases hs : isSc q.1 <;> rw [hs] at h2 <;> cases h2
    | no => cases h2
    | od q => cases h2
    | ow ds n => cases h2
  · rw [List.getElem?_map] at e
    obtain ⟨e0, h1, h2⟩ := Option.map_eq_some_iff.mp e
    cases e0 with
    | fz q =>
      have h2 : (bif isSc q.1 then En.fz q else En.no) = En.od p := h2
      cases hs : isSc q.1 <;> rw [hs] at h2 <;> cases h2
    | no => cases h2
    | od q =>
      cases h2
      obtain ⟨v, a, r⟩ := h.od i _ h1
      exact ⟨v, a, rp_nol r⟩
    | ow ds n => cases h2
theorem mut_ok {o e : EX} {D : Ends} (em : mutB o e ρ = some ()) (h : RepS G0 H0 F H σ ρ) (gh0 : Same G0 H0) (q : ∀ H', Same H0 H' → RepS G0 H' G0 H' σ (ρ.map leE) → D.nx σ H') : ts K (.mapp o e) D σ H := by
  unfold mutB at em
  obtain ⟨r, e1, em⟩ := Option.bind_eq_some_iff.mp em
  obtain ⟨p, e2, em⟩ := Option.bind_eq_some_iff.mp em
  split at em
  · rename_i ds _
    have hc : isSc p.d = true ∧ ds.length < 100000 := by
      cases z : (isSc p.d && decide (ds.length < 100000)) with
      | false =>
        rw [z] at em
        cases em
      | true =>
        rw [Bool.and_eq_true, decide_eq_true_eq] at z
        exact z
    obtain ⟨G, fg, gh, rep, own⟩ := h.opened (vE o)
    refine ev_ok o _ _ e1 (Zn H0) G H σ _ rep h.fresh gh fun v H3 G3 g3 er => ?_
    have er : Rp (zz (Zn H0) true) G3 v (.list ds) := er
    cases er with
    | @lst a xs ds ha za ra =>
      have R3 := h.keep g3.sH
      refine ⟨.inl ⟨rfl, _, sqL_of (g3.gh _ _ ha)⟩, ?_⟩
      obtain ⟨G4, fg4, gh4, rep4, own4⟩ := R3.opened (vE e)
      refine ev_ok e _ _ e2 (Zn H0) G4 H3 σ _ rep4 R3.fresh gh4 fun u H5 G5 g5 er5 => ?_
      have R5 := R3.keep g5.sH
      have h0 : H0 a = none := za rfl
      refine ⟨a, xs, u, rfl, rfl, g5.sH _ _ (g3.gh _ _ ha), by rw [ra.length]; exact Nat.lt_of_lt_of_le hc.2 (by decide), ?_⟩
      refine q _ (fun c o ec => ?_) (R5.left h0 gh0)
      have ne : c ≠ a := fun z => by rw [z, h0] at ec; cases ec
      rw [upd_ne ne]
      exact R5.gr.sH _ _ ec
  · cases em
theorem runM_ok {np ns : Nat} {b1 b2 b3 : STs} {o e : EX} {vs : List V} {H : Hp} {Q : VK} {E : XK} (hn : np ≤ ns) (h : spZ (runM np ns b1 b2 o e b3) vs H Q E) :
    tss K (b1.app (b2.app (.cons (.mapp o e) b3))) { nx := fun _ H' => Q .non H', rt := Q } (vs.map some ++ List.replicate (ns - vs.length) none) H := by
  obtain ⟨Z, G, ds, r, ee, hZ, gh, rs, q⟩ := h
  have hl : ds.length = np := by
    unfold runM at ee
    split at ee
    · assumption
    · cases ee
  unfold runM at ee
  rw [if_pos hl] at ee
  obtain ⟨o1, e1, ee⟩ := Option.bind_eq_some_iff.mp ee
  rw [rs.length, hl, tss_app, tss_app]
  have up : ∀ {H1 : Hp} {n : Bool} {v : V} {d : PyData} {G' : Hp}, Same H H1 → Rp (zz (Zn H1) n) G' v d → Rp (zz Z n) G' v d := fun s h => h.mono (fun a z n => hZ a (s.free (z n))) (Same.refl _)
  refine execs_ok b1 _ o1 e1 G H G H _ _ (start_rep gh rs) ?_
  cases o1 with
  | ct ρ => cases ee
  | br ρ => cases ee
  | rt p =>
    cases ee
    exact fun v F' H' g rv => q v H' F' g (up (Same.refl _) rv)
  | nx ρ1 =>
    obtain ⟨o2, e2, ee⟩ := Option.bind_eq_some_iff.mp ee
    intro F1 H1 σ1 s1 R1
    obtain ⟨F2, g2, R2⟩ := R1.mark
    refine execs_ok b2 _ o2 e2 F2 H1 F2 H1 _ _ R2 ?_
    cases o2 with
    | ct ρ => cases ee
    | br ρ => cases ee
    | rt p =>
      cases ee
      exact fun v F' H' g rv => q v H' F' (g2.trans g) (up g2.sH rv)
    | nx ρ2 =>
      obtain ⟨u, em, ee⟩ := Option.bind_eq_some_iff.mp ee
      obtain ⟨o3, e3, ee⟩ := Option.bind_eq_some_iff.mp ee
      intro F3 H3 σ3 s3 R3
      refine mut_ok em R3 g2.gh fun H4 s4 R4 => ?_
      refine execs_ok b3 _ o3 e3 F2 H4 F2 H4 _ _ R4 ?_
      have g4 : Grow G H F2 H4 := ⟨g2.sH.trans s4, g2.sG, R4.gr.gh, g2.nw⟩
      cases o3 with
      | ct ρ => cases ee
      | br ρ => cases ee
      | rt p =>
        cases ee
        exact fun v F' H' g rv => q v H' F' (g4.trans g) (up g4.sH rv)
      | nx ρ =>
        cases ee
        exact fun F' H' σ' s R => q .non H' F' (g4.trans R.gr) .non
end
section
variable {P : Program} {w : World} {K : PySem.W.Frag} {mg : Str → Option Value} {base : Heap} {x qual : Str} {st : Stmt} {f : Addr} {fd : FuncData}
theorem fnG_M {N ps : List Str} {k : Nat} (F : Fun K x qual st f fd) (S : FnScope N ps (defScope st)) (b1 b2 : STs) (o e : EX) (b3 : STs) (hn : ps.length ≤ N.length)
    (body : ∀ (cdv : Value) (A : Around) (outer : List Env) (s : Shared) (H : Hp), A.guards = some [] → Room k (A.deeper (envOfC qual (defScope st) s.heap.objs.size f cdv)) →
      PSs (cxOf CX0 P w K mg base N qual (defScope st) f cdv A outer s H E0).nox (defBody st) (tss K (b1.app (b2.app (.cons (.mapp o e) b3))))) : FnG P w K mg base (k + 1) f fd ps (spZ (runM ps.length N.length b1 b2 o e b3)) := by
  refine fnG_ok F S (fun vs H Q E h => ?_) (fun cdv A outer s H vs Q hg hr h => ⟨_, body cdv A outer s H hg hr, runM_ok hn h⟩)
  obtain ⟨Z, G, ds, r, e, _, _, rs, _⟩ := h
  rw [rs.length]
  unfold runM at e
  split at e
  · assumption
  · cases e
end
theorem runM_go {np ns : Nat} {b1 b2 b3 : STs} {o e : EX} {args : List PyData} {ρ1 ρ2 : RhoS} {p : PB} (h : args.length = np) (e1 : execs b1 ((args.map fun d => En.fz (d, nol d)) ++ List.replicate (ns - np) .no) = some (.nx ρ1)) (e2 : execs b2 (ρ1.map reE) = some (.nx ρ2))
    (e3 : mutB o e ρ2 = some ()) (e4 : execs b3 (ρ2.map leE) = some (.rt p)) : runM np ns b1 b2 o e b3 args = some p := by
  unfold runM
  rw [if_pos h, e1]
  show (execs b2 (ρ1.map reE)).bind _ = _
  rw [e2]
  show (mutB o e ρ2).bind _ = _
  rw [e3]
  show (execs b3 (ρ2.map leE)).bind _ = _
  rw [e4] <;> rfl
end Un

set_option maxRecDepth 100000
set_option maxHeartbeats 4000000
namespace Un
open PySem PySem.Spec PyProof.Rows L2
/-! ### a def that appends None to each list of a list that it was given new -/
def isLst : PyData → Bool
  | .list _ => true
  | _ => false
def swOk (m : Nat) : List PyData → Bool
  | [] => true
  | .list es :: ds => decide (es.length + m < 99999) && (es.all fun d => !isLst d) && swOk m ds
  | _ :: _ => false
def sweepB (o : EX) (i : Nat) (ρ : RhoS) : Option Unit := (ev o (view (vE o) ρ)).bind fun r => match r with
  | ⟨.list ds, true, false⟩ => bif swOk ds.length ds && decide (i < ρ.length) then some () else none
  | _ => none
def swS (o : EX) (i : Nat) : ST := .for .list (.cons o .nil) (.nm i) (.one (.app i (.cst .none)))
def runS (np ns : Nat) (b1 b2 : STs) (o : EX) (i : Nat) (b3 : STs) : FnZ := fun args => if args.length = np then
  (execs b1 ((args.map fun d => .fz (d, nol d)) ++ List.replicate (ns - np) .no)).bind fun o1 => thenZ o1 fun ρ1 =>
    (execs b2 (ρ1.map reE)).bind fun o2 => thenZ o2 fun ρ2 => (sweepB o i ρ2).bind fun _ => (execs b3 ((ρ2.map leE).set i .no)).bind endZ else none
section
variable {K : PySem.W.Frag} {G0 H0 F H : Hp} {σ : L2.St} {ρ : RhoS}
theorem RepS.leftS (h : RepS G0 H0 F H σ ρ) {H' : Hp} {i : Nat} {w : Option V} (s : Same G0 H') : RepS G0 H' G0 H' (σ.set i w) ((ρ.map leE).set i .no) := by
  have at_ : ∀ (j : Nat) (e : En), ((ρ.map leE).set i .no)[j]? = some e → e = .no ∨ (j ≠ i ∧ ∃ e0, ρ[j]? = some e0 ∧ leE e0 = e) := fun j e he => by
    rw [List.getElem?_set] at he
    split at he
    · split at he
      · exact .inl (Option.some.inj he).symm
      · cases he
    · rename_i ne
      rw [List.getElem?_map] at he
      obtain ⟨e0, h1, h2⟩ := Option.map_eq_some_iff.mp he
      exact .inr ⟨fun z => ne z.symm, e0, h1, h2⟩
  have sg : ∀ (j : Nat) (v : Option V), j ≠ i → σ[j]? = some v → (σ.set i w)[j]? = some v := fun j v ne e => by
    rw [List.getElem?_set_ne (fun z => ne z.symm)]
    exact e
  refine ⟨Grow.refl s, by rw [List.length_set, List.length_set, List.length_map]; exact h.len, fun j p e => ?_, fun j ds n e => ?_, fun j k l ds es n m e1 _ _ _ => ?_, fun j p e => ?_⟩
  · rcases at_ j _ e with z | ⟨ne, e0, h1, h2⟩
    · cases z
    · cases e0 with
      | no => cases h2
      | fz q =>
        have h2 : (bif isSc q.1 then En.fz q else En.no) = En.fz p := h2
        cases hs : isSc q.1 with
        | true =>
          rw [hs] at h2
          cases h2
          obtain ⟨v, a, r⟩ := h.fz j _ h1
          refine ⟨v, sg j _ ne a, ?_⟩
          rw [sc_rp r hs]
          exact rp_sc hs
        | false =>
          rw [hs] at h2
          cases h2
      | od q => cases h2
      | ow ds n => cases h2
  · rcases at_ j _ e with z | ⟨ne, e0, h1, h2⟩
    · cases z
    · cases e0 with
      | fz q =>
        have h2 : (bif isSc q.1 then En.fz q else En.no) = En.ow ds n := h2
        cases hs : isSc q.1 <;> rw [hs] at h2 <;> cases h2
      | no => cases h2
      | od q => cases h2
      | ow ds n => cases h2
  · rcases at_ j _ e1 with z | ⟨ne, e0, h1, h2⟩
    · cases z
    · cases e0 with
      | fz q =>
        have h2 : (bif isSc q.1 then En.fz q else En.no) = En.ow ds n := h2
        cases hs : isSc q.1 <;> rw [hs] at h2 <;> cases h2
      | no => cases h2
      | od q => cases h2
      | ow ds n => cases h2
  · rcases at_ j _ e with z | ⟨ne, e0, h1, h2⟩
    · cases z
    · cases e0 with
      | fz q =>
        have h2 : (bif isSc q.1 then En.fz q else En.no) = En.od p := h2
        cases hs : isSc q.1 <;> rw [hs] at h2 <;> cases h2
      | no => cases h2
      | od q =>
        cases h2
        obtain ⟨v, a, r⟩ := h.od j _ h1
        exact ⟨v, sg j _ ne a, rp_nol r⟩
      | ow ds n => cases h2
/-- the lists of a list -/
theorem swOk_rows {Z : Addr → Prop} {G : Hp} {m : Nat} : ∀ {ds : List PyData} {xs : List V}, swOk m ds = true → RpA Z G xs ds → ∃ bs : List Addr, xs = bs.map V.ref ∧ ∀ b ∈ bs, Z b ∧ ∃ ys, G b = some (.lst ys) ∧ ys.length + m < 99999 ∧ ∀ c ∈ ys, ∀ d zs, c = V.ref d → G d ≠ some (.lst zs)
  | [], _, _, .nil => ⟨[], rfl, fun b hb => (List.not_mem_nil hb).elim⟩
  | d :: ds, _, h, .cons r t => by
    cases r with
    | @lst a xs es ha hz ra =>
      have h : (decide (es.length + m < 99999) && (es.all fun d => !isLst d) && swOk m ds) = true := h
      rw [Bool.and_eq_true, Bool.and_eq_true, decide_eq_true_eq] at h
      obtain ⟨bs, e1, e2⟩ := swOk_rows h.2 t
      refine ⟨a :: bs, by rw [e1] <;> rfl, fun b hb => ?_⟩
      rcases List.mem_cons.mp hb with rfl | hb
      · refine ⟨hz, xs, ha, by rw [ra.length]; exact h.1.1, fun c hc d zs ec ed => ?_⟩
        subst ec
        obtain ⟨j, hj⟩ := List.getElem?_of_mem hc
        obtain ⟨d1, g1, g2⟩ := ra.getV hj
        have n1 := List.all_eq_true.mp h.1.2 d1 (List.mem_of_getElem? g1)
        cases g2 with
        | lst q1 _ _ => simp [isLst] at n1
        | tup q1 _ =>
          rw [ed] at q1
          cases q1
        | dic q1 _ _ =>
          rw [ed] at q1
          cases q1
      · exact e2 b hb
    | non => cases h
    | bl b => cases h
    | int b => cases h
    | str b => cases h
    | tup b => cases h
    | dic b => cases h
theorem sweep_ok {o : EX} {i : Nat} {D : Ends} (em : sweepB o i ρ = some ()) (h : RepS G0 H0 F H σ ρ) (gh0 : Same G0 H0) (q : ∀ H' w, Same H0 H' → RepS G0 H' G0 H' (σ.set i w) ((ρ.map leE).set i .no) → D.nx (σ.set i w) H') : ts K (swS o i) D σ H := by
  unfold sweepB at em
  obtain ⟨r, e1, em⟩ := Option.bind_eq_some_iff.mp em
  split at em
  · rename_i ds
    have hc : swOk ds.length ds = true ∧ i < ρ.length := by
      cases z : (swOk ds.length ds && decide (i < ρ.length)) with
      | false =>
        rw [z] at em
        cases em
      | true =>
        rw [Bool.and_eq_true, decide_eq_true_eq] at z
        exact z
    have hi : i < σ.length := by rw [h.len]; exact hc.2
    obtain ⟨G, fg, gh, rep, own⟩ := h.opened (vE o)
    show tFor (tiS K .list (tas K (.cons o .nil))) (gName i) (ts K (.app i (.cst .none))) D σ H
    refine ev_ok o _ _ e1 (Zn H0) G H σ _ rep h.fresh gh fun v H3 G3 g3 er => ?_
    have er : Rp (zz (Zn H0) true) G3 v (.list ds) := er
    cases er with
    | @lst a xs ds ha za ra =>
      obtain ⟨bs, rfl, hb⟩ := swOk_rows hc.1 ra
      have lb : bs.length = ds.length := by
        have := ra.length
        rw [List.length_map] at this
        exact this
      have bna : ∀ b ∈ bs, b ≠ a := fun b m z => by
        obtain ⟨_, ys, y1, _, y2⟩ := hb b m
        rw [z, ha] at y1
        cases y1
        refine y2 (V.ref a) (List.mem_map.mpr ⟨b, m, by rw [z]⟩) a _ rfl ha
      have R3 := h.keep g3.sH
      have h0 : H0 a = none := za rfl
      refine ⟨a, rfl, .inl ⟨⟨_, sqL_of (g3.gh _ _ ha)⟩, ?_⟩⟩
      refine for_list (K := K) (a := a) (xs := bs.map V.ref) (fun j σ' H' => (∃ w, σ' = σ.set i w) ∧ Same H0 H' ∧ H' a = some (.lst (bs.map V.ref)) ∧ ∀ b ∈ bs, ∃ ys, H' b = some (.lst ys) ∧ ys.length + (ds.length - j) < 99999)
        ⟨⟨_, (List.set_getElem_self hi).symm⟩, h.gr.sH.trans g3.sH, g3.gh _ _ ha, fun b m => ?_⟩ (fun j σ' H' _ ⟨_, _, e, _⟩ => sqL_of e) ?_ ?_
      · obtain ⟨_, ys, y1, y2, _⟩ := hb b m
        exact ⟨ys, g3.gh _ _ y1, by omega⟩
      · rintro j x σ' H' hx ⟨⟨w, rfl⟩, s0, hA, hB⟩
        rw [List.getElem?_map] at hx
        obtain ⟨b, hb1, rfl⟩ := Option.map_eq_some_iff.mp hx
        have mb := List.mem_of_getElem? hb1
        have jl : j < ds.length := by
          rw [← lb]
          exact (List.getElem?_eq_some_iff.mp hb1).1
        obtain ⟨ys, y1, y2⟩ := hB b mb
        have hb0 : H0 b = none := (hb b mb).1 rfl
        refine ⟨V.ref b, by rw [List.getElem?_set_self (by rw [List.length_set]; exact hi)], .inl ⟨rfl, _, sqL_of y1⟩, ?_⟩
        refine ⟨b, ys, .non, rfl, rfl, y1, Nat.lt_of_lt_of_le (show ys.length < 99999 by omega) (by decide), ?_⟩
        refine ⟨⟨some (.ref b), by rw [List.set_set]⟩, Same.mut s0 hb0, ?_, fun c mc => ?_⟩
        · rw [upd_ne (fun z => bna b mb z.symm)]
          exact hA
        · by_cases z : c = b
          · subst z
            exact ⟨_, upd_same, by rw [List.length_append, List.length_singleton]; omega⟩
          · obtain ⟨zs, z1, z2⟩ := hB c mc
            exact ⟨zs, by rw [upd_ne z]; exact z1, by omega⟩
      · rintro σ' H' ⟨⟨w, rfl⟩, s0, hA, hB⟩
        exact q H' w s0 (R3.leftS (gh0.trans s0))
  · cases em
theorem runS_ok {np ns : Nat} {b1 b2 b3 : STs} {o : EX} {i : Nat} {vs : List V} {H : Hp} {Q : VK} {E : XK} (hn : np ≤ ns) (h : spZ (runS np ns b1 b2 o i b3) vs H Q E) :
    tss K (b1.app (b2.app (.cons (swS o i) b3))) { nx := fun _ H' => Q .non H', rt := Q } (vs.map some ++ List.replicate (ns - vs.length) none) H := by
  obtain ⟨Z, G, ds, r, ee, hZ, gh, rs, q⟩ := h
  have hl : ds.length = np := by
    unfold runS at ee
    split at ee
    · assumption
    · cases ee
  unfold runS at ee
  rw [if_pos hl] at ee
  obtain ⟨o1, e1, ee⟩ := Option.bind_eq_some_iff.mp ee
  rw [rs.length, hl, tss_app, tss_app]
  have up : ∀ {H1 : Hp} {n : Bool} {v : V} {d : PyData} {G' : Hp}, Same H H1 → Rp (zz (Zn H1) n) G' v d → Rp (zz Z n) G' v d := fun s h => h.mono (fun a z n => hZ a (s.free (z n))) (Same.refl _)
  refine execs_ok b1 _ o1 e1 G H G H _ _ (start_rep gh rs) ?_
  cases o1 with
  | ct ρ => cases ee
  | br ρ => cases ee
  | rt p =>
    cases ee
    exact fun v F' H' g rv => q v H' F' g (up (Same.refl _) rv)
  | nx ρ1 =>
    obtain ⟨o2, e2, ee⟩ := Option.bind_eq_some_iff.mp ee
    intro F1 H1 σ1 s1 R1
    obtain ⟨F2, g2, R2⟩ := R1.mark
    refine execs_ok b2 _ o2 e2 F2 H1 F2 H1 _ _ R2 ?_
    cases o2 with
    | ct ρ => cases ee
    | br ρ => cases ee
    | rt p =>
      cases ee
      exact fun v F' H' g rv => q v H' F' (g2.trans g) (up g2.sH rv)
    | nx ρ2 =>
      obtain ⟨u, em, ee⟩ := Option.bind_eq_some_iff.mp ee
      obtain ⟨o3, e3, ee⟩ := Option.bind_eq_some_iff.mp ee
      intro F3 H3 σ3 s3 R3
      refine sweep_ok em R3 g2.gh fun H4 w s4 R4 => ?_
      refine execs_ok b3 _ o3 e3 F2 H4 F2 H4 _ _ R4 ?_
      have g4 : Grow G H F2 H4 := ⟨g2.sH.trans s4, g2.sG, R4.gr.gh, g2.nw⟩
      cases o3 with
      | ct ρ => cases ee
      | br ρ => cases ee
      | rt p =>
        cases ee
        exact fun v F' H' g rv => q v H' F' (g4.trans g) (up g4.sH rv)
      | nx ρ =>
        cases ee
        exact fun F' H' σ' s R => q .non H' F' (g4.trans R.gr) .non
end
section
variable {P : Program} {w : World} {K : PySem.W.Frag} {mg : Str → Option Value} {base : Heap} {x qual : Str} {st : Stmt} {f : Addr} {fd : FuncData}
theorem fnG_S {N ps : List Str} {k : Nat} (F : Fun K x qual st f fd) (S : FnScope N ps (defScope st)) (b1 b2 : STs) (o : EX) (i : Nat) (b3 : STs) (hn : ps.length ≤ N.length)
    (body : ∀ (cdv : Value) (A : Around) (outer : List Env) (s : Shared) (H : Hp), A.guards = some [] → Room k (A.deeper (envOfC qual (defScope st) s.heap.objs.size f cdv)) →
      PSs (cxOf CX0 P w K mg base N qual (defScope st) f cdv A outer s H E0).nox (defBody st) (tss K (b1.app (b2.app (.cons (swS o i) b3))))) : FnG P w K mg base (k + 1) f fd ps (spZ (runS ps.length N.length b1 b2 o i b3)) := by
  refine fnG_ok F S (fun vs H Q E h => ?_) (fun cdv A outer s H vs Q hg hr h => ⟨_, body cdv A outer s H hg hr, runS_ok hn h⟩)
  obtain ⟨Z, G, ds, r, e, _, _, rs, _⟩ := h
  rw [rs.length]
  unfold runS at e
  split at e
  · assumption
  · cases e
end
theorem runS_go {np ns : Nat} {b1 b2 b3 : STs} {o : EX} {i : Nat} {args : List PyData} {ρ1 ρ2 : RhoS} {p : PB} (h : args.length = np) (e1 : execs b1 ((args.map fun d => En.fz (d, nol d)) ++ List.replicate (ns - np) .no) = some (.nx ρ1)) (e2 : execs b2 (ρ1.map reE) = some (.nx ρ2))
    (e3 : sweepB o i ρ2 = some ()) (e4 : execs b3 ((ρ2.map leE).set i .no) = some (.rt p)) : runS np ns b1 b2 o i b3 args = some p := by
  unfold runS
  rw [if_pos h, e1]
  show (execs b2 (ρ1.map reE)).bind _ = _
  rw [e2]
  show (sweepB o i ρ2).bind _ = _
  rw [e3]
  show (execs b3 ((ρ2.map leE).set i .no)).bind _ = _
  rw [e4] <;> rfl
end Un

set_option maxRecDepth 100000
set_option maxHeartbeats 8000000
namespace Un
open PySem PySem.Spec PyProof.Rows L2
-- names_and_joining: 0:cells 1:web 2:names 3:joining 4:first 5:second 6:low 7:high 8:name
def a_names_and_joining_1 : STs := (.one (.ifs (.val (.bin .ne (.bin .ix (.var 2) (.var 4)) (.bin .ix (.var 2) (.var 5)))) (.cons (.asg (.nm 6) (.cb .min2 (.cons (.bin .ix (.var 2) (.var 4)) (.cons (.bin .ix (.var 2) (.var 5)) .nil))))
        (.cons (.asg (.nm 7) (.cb .max2 (.cons (.bin .ix (.var 2) (.var 4)) (.cons (.bin .ix (.var 2) (.var 5)) .nil))))
        (.cons (.asg (.nm 2) (.lc .list (.cons (.var 2) .nil) (.nm 8) .no (.ife (.val (.bin .eq (.var 8) (.var 7))) (.var 6) (.var 8)) [8]))
        (.one (.app 3 (.tup (.cons (.var 4) (.cons (.var 5) .nil)))))))) .nil))
def a_names_and_joining : STs := (.cons (.asg (.nm 2) (.lrg1 (.bin .add (.var 0) (.cst (.int 1)))))
    (.cons (.asg (.nm 3) (.lst .nil))
    (.cons (.for .list (.cons (.var 1) .nil) (.tp [4, 5]) a_names_and_joining_1)
    (.one (.ret (.tup (.cons (.var 2) (.cons (.var 3) .nil))))))))
def fn_names_and_joining : FnZ := runZ 2 9 a_names_and_joining
-- pieces_of: 0:cells 1:web 2:names 3:_ 4:leasts 5:cell 6:least
def a_pieces_of : STs := (.cons (.asg (.tp [2, 3]) (.call fn_names_and_joining (.cons (.var 0) (.cons (.var 1) .nil))))
    (.cons (.asg (.nm 4) (.lc .rng2 (.cons (.cst (.int 1)) (.cons (.bin .add (.var 0) (.cst (.int 1))) .nil)) (.nm 5) (.at (.val (.bin .eq (.bin .ix (.var 2) (.var 5)) (.var 5)))) (.var 5) [5]))
    (.one (.ret (.lc .list (.cons (.var 4) .nil) (.nm 6) .no (.lc .rng2 (.cons (.cst (.int 1)) (.cons (.bin .add (.var 0) (.cst (.int 1))) .nil)) (.nm 5) (.at (.val (.bin .eq (.bin .ix (.var 2) (.var 5)) (.var 6)))) (.var 5) [5]) [6])))))
def fn_pieces_of : FnZ := runZ 2 7 a_pieces_of
-- joining_of: 0:cells 1:web 2:_ 3:joining
def a_joining_of : STs := (.cons (.asg (.tp [2, 3]) (.call fn_names_and_joining (.cons (.var 0) (.cons (.var 1) .nil))))
    (.one (.ret (.var 3))))
def fn_joining_of : FnZ := runZ 2 4 a_joining_of
-- forms_tree: 0:cells 1:web
def a_forms_tree : STs := (.one (.ret (.chn .eq .eq (.cb .len (.cons (.var 1) .nil)) (.bin .sub (.var 0) (.cst (.int 1))) (.cb .len (.cons (.call fn_joining_of (.cons (.var 0) (.cons (.var 1) .nil))) .nil)))))
def fn_forms_tree : FnZ := runZ 2 2 a_forms_tree
-- web_without: 0:web 1:exchange 2:kept
def a_web_without : STs := (.one (.ret (.lc .list (.cons (.var 0) .nil) (.nm 2) (.at (.val (.bin .ne (.var 2) (.var 1)))) (.var 2) [2])))
def fn_web_without : FnZ := runZ 2 3 a_web_without
-- exchange_of: 0:one 1:two
def a_exchange_of : STs := (.one (.ret (.tup (.cons (.cb .min2 (.cons (.var 0) (.cons (.var 1) .nil))) (.cons (.cb .max2 (.cons (.var 0) (.cons (.var 1) .nil))) .nil)))))
def fn_exchange_of : FnZ := runZ 2 2 a_exchange_of
end Un

set_option maxHeartbeats 1000000
namespace Un
/-! ### ways and orders: the mathematics -/
def nAt (names : List Int) (c : Int) : Int := names.getD c.toNat 0
def names0 (n : Int) : List Int := (List.range (n + 1).toNat).map fun (i : Nat) => (i : Int)
theorem names0_len (n : Int) : (names0 n).length = (n + 1).toNat := by
  unfold names0
  rw [List.length_map, List.length_range]
theorem nAt_names0 {n c : Int} (h0 : 0 ≤ c) (h : c ≤ n) : nAt (names0 n) c = c := by
  unfold nAt names0
  have hc : c.toNat < (n + 1).toNat := by omega
  rw [List.getD_eq_getElem?_getD, List.getElem?_map, List.getElem?_range hc]
  show ((c.toNat : Nat) : Int) = c
  omega
theorem nAt_set {held : List Int} {c d v : Int} (h0 : 0 ≤ c) (h1 : c < held.length) (d0 : 0 ≤ d) : nAt (held.set c.toNat v) d = if d = c then v else nAt held d := by
  unfold nAt
  rw [List.getD_eq_getElem?_getD, List.getD_eq_getElem?_getD, List.getElem?_set]
  by_cases e : d = c
  · subst e
    rw [if_pos rfl, if_pos rfl, if_pos (by omega)] <;> rfl
  · rw [if_neg (by omega), if_neg e]
def lst (w : List Int) : Int := w.getLastD 0
theorem lst_snoc (w : List Int) (x : Int) : lst (w ++ [x]) = x := by
  unfold lst
  rw [List.getLastD_eq_getLast?, List.getLast?_append] <;> rfl
def row (xss : List (List Int)) (c : Int) : List Int := xss.getD (c - 1).toNat []
def put (xss : List (List Int)) (c v : Int) : List (List Int) := xss.set (c - 1).toNat (row xss c ++ [v])
theorem put_len (xss : List (List Int)) (c v : Int) : (put xss c v).length = xss.length := by
  unfold put
  rw [List.length_set]
theorem row_put {xss : List (List Int)} {c d v : Int} (c1 : 1 ≤ c) (c2 : c ≤ xss.length) (d1 : 1 ≤ d) : row (put xss c v) d = if d = c then row xss c ++ [v] else row xss d := by
  unfold put
  show (xss.set _ _).getD (d - 1).toNat [] = _
  rw [List.getD_eq_getElem?_getD, List.getElem?_set]
  by_cases e : d = c
  · subst e
    rw [if_pos rfl, if_pos rfl, if_pos (by omega)] <;> rfl
  · rw [if_neg (by omega), if_neg e]
    show _ = xss.getD _ _
    rw [List.getD_eq_getElem?_getD]
/-- an exchange, thing by thing -/
def wOne (e : Int × Int) (w : List Int) : List Int := if lst w = e.1 then w ++ [e.2] else if lst w = e.2 then w ++ [e.1] else w
def wStep (xss : List (List Int)) (e : Int × Int) : List (List Int) := xss.map (wOne e)
def ways0 (n : Int) : List (List Int) := (cs n).map fun c => [c]
def waysF (n : Int) (es : List (Int × Int)) : List (List Int) := es.foldl wStep (ways0 n)
def endsF (n : Int) (es : List (Int × Int)) : List Int := (waysF n es).map lst
def oStep (xss : List (List Int)) (e : Int × Int) : List (List Int) := put (put xss e.1 e.2) e.2 e.1
def ords0 (n : Int) : List (List Int) := (cs n).map fun _ => []
def ordF (n : Int) (es : List (Int × Int)) : List (List Int) := es.foldl oStep (ords0 n)
structure Held (n : Int) (xss : List (List Int)) (held : List Int) : Prop where
  lx : (xss.length : Int) = n
  lh : (held.length : Int) = n + 1
  at_ : ∀ c, 1 ≤ c → c ≤ n → 1 ≤ nAt held c ∧ nAt held c ≤ n ∧ lst (row xss (nAt held c)) = c
  of_ : ∀ i, 1 ≤ i → i ≤ n → 1 ≤ lst (row xss i) ∧ lst (row xss i) ≤ n ∧ nAt held (lst (row xss i)) = i
  ne : ∀ i, 1 ≤ i → i ≤ n → row xss i ≠ []
theorem row_ways0 {n i : Int} (h1 : 1 ≤ i) (h2 : i ≤ n) : row (ways0 n) i = [i] := by
  unfold row ways0
  have hi : (i - 1).toNat < n.toNat := by omega
  rw [List.getD_eq_getElem?_getD, List.getElem?_map]
  unfold cs
  rw [List.getElem?_map, List.getElem?_range hi]
  show [1 + (((i - 1).toNat : Nat) : Int)] = [i]
  congr 1
  omega
theorem ways0_len {n : Int} : (ways0 n).length = n.toNat := by
  unfold ways0
  rw [List.length_map, cs_len]
theorem Held.zero {n : Int} (hn : 0 ≤ n) : Held n (ways0 n) (names0 n) := by
  refine ⟨?_, ?_, ?_, ?_, ?_⟩
  · rw [ways0_len]
    omega
  · rw [names0_len]
    omega
  · intro c h1 h2
    rw [nAt_names0 (by omega) h2, row_ways0 h1 h2]
    exact ⟨h1, h2, rfl⟩
  · intro i h1 h2
    rw [row_ways0 h1 h2]
    show 1 ≤ i ∧ i ≤ n ∧ nAt (names0 n) i = i
    exact ⟨h1, h2, nAt_names0 (by omega) h2⟩
  · intro i h1 h2
    rw [row_ways0 h1 h2]
    exact fun z => nomatch z
theorem row_map {xss : List (List Int)} {f : List Int → List Int} {i : Int} (h1 : 1 ≤ i) (h2 : i ≤ xss.length) : row (xss.map f) i = f (row xss i) := by
  unfold row
  have hi : (i - 1).toNat < xss.length := by omega
  rw [List.getD_eq_getElem?_getD, List.getD_eq_getElem?_getD, List.getElem?_map, List.getElem?_eq_getElem hi] <;> rfl
theorem ext_row {xss yss : List (List Int)} (hl : xss.length = yss.length) (h : ∀ i : Int, 1 ≤ i → i ≤ xss.length → row xss i = row yss i) : xss = yss := by
  refine List.ext_getElem hl fun i h1 h2 => ?_
  have z := h (1 + (i : Int)) (by omega) (by omega)
  unfold row at z
  have e : (1 + (i : Int) - 1).toNat = i := by omega
  rw [e, List.getD_eq_getElem?_getD, List.getD_eq_getElem?_getD, List.getElem?_eq_getElem h1, List.getElem?_eq_getElem h2] at z
  exact z
/-- two rows grow: the rows of the things in both cells -/
theorem Held.step {n : Int} {xss : List (List Int)} {held : List Int} (h : Held n xss held) {e : Int × Int} (u1 : 1 ≤ e.1) (uv : e.1 < e.2) (v2 : e.2 ≤ n) :
    put (put xss (nAt held e.1) e.2) (nAt held e.2) e.1 = wStep xss e ∧ Held n (wStep xss e) ((held.set e.1.toNat (nAt held e.2)).set e.2.toNat (nAt held e.1)) ∧ nAt held e.1 ≠ nAt held e.2 := by
  have lx := h.lx
  have lh := h.lh
  obtain ⟨a1, a2, a3⟩ := h.at_ e.1 u1 (by omega)
  obtain ⟨b1, b2, b3⟩ := h.at_ e.2 (by omega) v2
  have ne : nAt held e.1 ≠ nAt held e.2 := fun z => by
    rw [z, b3] at a3
    omega
  have eq : put (put xss (nAt held e.1) e.2) (nAt held e.2) e.1 = wStep xss e := by
    refine ext_row ?_ ?_
    · rw [put_len, put_len]
      unfold wStep
      rw [List.length_map]
    · intro i i1 i2
      rw [put_len, put_len] at i2
      obtain ⟨c1, c2, c3⟩ := h.of_ i i1 (by omega)
      rw [row_put b1 (by rw [put_len]; omega) i1, row_put a1 (by omega) i1, row_put a1 (by omega) b1, if_neg ne.symm]
      unfold wStep
      rw [row_map i1 i2]
      unfold wOne
      by_cases e2 : i = nAt held e.2
      · rw [if_pos e2, e2, b3, if_neg (by omega), if_pos rfl]
      · rw [if_neg e2]
        by_cases e1 : i = nAt held e.1
        · rw [if_pos e1, e1, a3, if_pos rfl]
        · rw [if_neg e1, if_neg fun z => e1 (by rw [← z, c3]), if_neg fun z => e2 (by rw [← z, c3])]
  refine ⟨eq, ?_, ne⟩
  have hl1 : ((held.set e.1.toNat (nAt held e.2)).length : Int) = n + 1 := by
    rw [List.length_set]
    exact lh
  have hel : ∀ c, 0 ≤ c → nAt ((held.set e.1.toNat (nAt held e.2)).set e.2.toNat (nAt held e.1)) c = if c = e.2 then nAt held e.1 else if c = e.1 then nAt held e.2 else nAt held c := fun c c0 => by
    rw [nAt_set (by omega) (by omega) c0, nAt_set (by omega) (by omega) c0]
  have rw_ : ∀ i, 1 ≤ i → i ≤ n → row (wStep xss e) i = wOne e (row xss i) := fun i i1 i2 => row_map i1 (by omega)
  refine ⟨?_, ?_, ?_, ?_, ?_⟩
  · unfold wStep
    rw [List.length_map]
    exact lx
  · rw [List.length_set]
    exact hl1
  · intro c c1 c2
    rw [hel c (by omega)]
    by_cases e2 : c = e.2
    · rw [if_pos e2]
      refine ⟨a1, a2, ?_⟩
      rw [rw_ _ a1 a2]
      unfold wOne
      rw [if_pos a3, lst_snoc, e2]
    · rw [if_neg e2]
      by_cases e1 : c = e.1
      · rw [if_pos e1]
        refine ⟨b1, b2, ?_⟩
        rw [rw_ _ b1 b2]
        unfold wOne
        rw [b3, if_neg (by omega), if_pos rfl, lst_snoc, e1]
      · rw [if_neg e1]
        obtain ⟨d1, d2, d3⟩ := h.at_ c c1 c2
        refine ⟨d1, d2, ?_⟩
        rw [rw_ _ d1 d2]
        unfold wOne
        rw [d3, if_neg e1, if_neg e2, d3]
  · intro i i1 i2
    obtain ⟨c1, c2, c3⟩ := h.of_ i i1 i2
    rw [rw_ i i1 i2]
    unfold wOne
    by_cases e1 : lst (row xss i) = e.1
    · rw [if_pos e1, lst_snoc]
      refine ⟨by omega, v2, ?_⟩
      rw [hel _ (by omega), if_pos rfl, ← e1, c3]
    · rw [if_neg e1]
      by_cases e2 : lst (row xss i) = e.2
      · rw [if_pos e2, lst_snoc]
        refine ⟨u1, by omega, ?_⟩
        rw [hel _ (by omega), if_neg (by omega), if_pos rfl, ← e2, c3]
      · rw [if_neg e2]
        refine ⟨c1, c2, ?_⟩
        rw [hel _ (by omega), if_neg e2, if_neg e1, c3]
  · intro i i1 i2
    rw [rw_ i i1 i2]
    unfold wOne
    split
    · simp
    · split
      · simp
      · exact h.ne i i1 i2
/-- sizes -/
def Small (n : Int) (m : Nat) (xss : List (List Int)) : Prop := ∀ w ∈ xss, w.length ≤ m ∧ ∀ c ∈ w, 1 ≤ c ∧ c ≤ n
theorem Small.map {n : Int} {m : Nat} {xss : List (List Int)} (h : Small n m xss) {e : Int × Int} (u1 : 1 ≤ e.1) (uv : e.1 < e.2) (v2 : e.2 ≤ n) : Small n (m + 1) (wStep xss e) := by
  intro w hw
  obtain ⟨w', hw', rfl⟩ := List.mem_map.mp hw
  obtain ⟨h1, h2⟩ := h w' hw'
  unfold wOne
  split
  · refine ⟨by rw [List.length_append]; exact Nat.succ_le_succ h1, fun c hc => ?_⟩
    rcases List.mem_append.mp hc with hc | hc
    · exact h2 c hc
    · rw [List.mem_singleton.mp hc]
      omega
  · split
    · refine ⟨by rw [List.length_append]; exact Nat.succ_le_succ h1, fun c hc => ?_⟩
      rcases List.mem_append.mp hc with hc | hc
      · exact h2 c hc
      · rw [List.mem_singleton.mp hc]
        omega
    · exact ⟨by omega, h2⟩
theorem Small.put {n : Int} {m : Nat} {xss : List (List Int)} (h : Small n m xss) {c v : Int} (v1 : 1 ≤ v) (v2 : v ≤ n) (hc1 : 1 ≤ c) (hc2 : c ≤ xss.length) : Small n (m + 1) (put xss c v) := by
  intro w hw
  have hr : row xss c ∈ xss := by
    unfold row
    rw [List.getD_eq_getElem?_getD, List.getElem?_eq_getElem (show (c - 1).toNat < xss.length by omega)]
    exact List.getElem_mem _
  rcases List.mem_or_eq_of_mem_set hw with hw | rfl
  · obtain ⟨h1, h2⟩ := h w hw
    exact ⟨by omega, h2⟩
  · obtain ⟨h1, h2⟩ := h _ hr
    refine ⟨by rw [List.length_append]; exact Nat.succ_le_succ h1, fun d hd => ?_⟩
    rcases List.mem_append.mp hd with hd | hd
    · exact h2 d hd
    · rw [List.mem_singleton.mp hd]
      exact ⟨v1, v2⟩
theorem ways_small {n : Int} : ∀ {es : List (Int × Int)} {m : Nat} {xss : List (List Int)}, (∀ e ∈ es, 1 ≤ e.1 ∧ e.1 < e.2 ∧ e.2 ≤ n) → Small n m xss → Small n (m + es.length) (es.foldl wStep xss)
  | [], m, xss, _, h => h
  | e :: es, m, xss, hI, h => by
    obtain ⟨i1, i2, i3⟩ := hI e List.mem_cons_self
    have r := ways_small (es := es) (fun f hf => hI f (List.mem_cons_of_mem _ hf)) (h.map i1 i2 i3)
    rw [show m + (e :: es).length = m + 1 + es.length by rw [List.length_cons]; omega]
    exact r
theorem ords_small {n : Int} : ∀ {es : List (Int × Int)} {m : Nat} {xss : List (List Int)}, (∀ e ∈ es, 1 ≤ e.1 ∧ e.1 < e.2 ∧ e.2 ≤ n) → (xss.length : Int) = n → Small n m xss → Small n (m + 2 * es.length) (es.foldl oStep xss)
  | [], m, xss, _, _, h => h
  | e :: es, m, xss, hI, hl, h => by
    obtain ⟨i1, i2, i3⟩ := hI e List.mem_cons_self
    have h1 := h.put (c := e.1) (v := e.2) (by omega) i3 i1 (by omega)
    have h2 := h1.put (c := e.2) (v := e.1) i1 (by omega) (by omega) (by rw [put_len]; omega)
    have hl2 : ((oStep xss e).length : Int) = n := by
      unfold oStep
      rw [put_len, put_len]
      exact hl
    have r := ords_small (es := es) (fun f hf => hI f (List.mem_cons_of_mem _ hf)) hl2 h2
    rw [show m + 2 * (e :: es).length = m + 1 + 1 + 2 * es.length by rw [List.length_cons]; omega]
    exact r
theorem waysF_len {n : Int} (es : List (Int × Int)) : (waysF n es).length = n.toNat := by
  unfold waysF
  have key : ∀ (es : List (Int × Int)) (xss : List (List Int)), (es.foldl wStep xss).length = xss.length := by
    intro es
    induction es with
    | nil => intro xss; rfl
    | cons e es ih =>
      intro xss
      rw [List.foldl_cons, ih]
      unfold wStep
      rw [List.length_map]
  rw [key, ways0_len]
theorem ordF_len' : ∀ (es : List (Int × Int)) (xss : List (List Int)), (es.foldl oStep xss).length = xss.length := by
  intro es
  induction es with
  | nil => intro xss; rfl
  | cons e es ih =>
    intro xss
    rw [List.foldl_cons, ih]
    unfold oStep
    rw [put_len, put_len]
theorem ords0_len (n : Int) : (ords0 n).length = n.toNat := by
  unfold ords0
  rw [List.length_map, cs_len]
theorem waysF_small {n : Int} {es : List (Int × Int)} (hI : ∀ e ∈ es, 1 ≤ e.1 ∧ e.1 < e.2 ∧ e.2 ≤ n) : Small n (1 + es.length) (waysF n es) := by
  refine ways_small hI ?_
  intro w hw
  obtain ⟨c, hc, rfl⟩ := List.mem_map.mp hw
  refine ⟨Nat.le_refl _, fun d hd => ?_⟩
  rw [List.mem_singleton.mp hd]
  exact mem_cs.mp hc
theorem ordF_small {n : Int} (hn : 0 ≤ n) {es : List (Int × Int)} (hI : ∀ e ∈ es, 1 ≤ e.1 ∧ e.1 < e.2 ∧ e.2 ≤ n) : Small n (0 + 2 * es.length) (ordF n es) := by
  refine ords_small hI (by rw [ords0_len]; omega) ?_
  intro w hw
  obtain ⟨c, hc, rfl⟩ := List.mem_map.mp hw
  exact ⟨Nat.le_refl _, fun d hd => (List.not_mem_nil hd).elim⟩
end Un

set_option maxRecDepth 100000
set_option maxHeartbeats 4000000
namespace Un
open PySem PySem.Spec PyProof.Rows L2
/-! ### what the older promises give, told by functions -/
instance : DecidableRel Lt2 := fun a b => by unfold Lt2; infer_instance
instance (es : List (Int × Int)) : Decidable (Asc es) := by unfold Asc; infer_instance
instance (n : Int) (es : List (Int × Int)) : Decidable (Inb n es) := by unfold Inb; infer_instance
def fn_check_cells : FnZ
  | [.int n] => if 1 ≤ n ∧ n ≤ 16 then some (.none, true) else none
  | _ => none
def fn_check_web : FnZ
  | [.int n, .list ds] => (prsL ds).bind fun es => if Asc es ∧ Inb n es then some (.none, true) else none
  | _ => none
def fn_check_log : FnZ
  | [.int n, .list ds] => (prsL ds).bind fun es => if es.Nodup ∧ es.length < 64 ∧ Inb n es then some (.none, true) else none
  | _ => none
def LogIn (n : Int) (es : List (Int × Int)) : Prop := 1 ≤ n ∧ n ≤ 16 ∧ Inb n es ∧ es.Nodup ∧ es.length < 64
instance (n : Int) (es : List (Int × Int)) : Decidable (LogIn n es) := by unfold LogIn; infer_instance
def fn_rows (g : Int → List (Int × Int) → List (List Int)) : FnZ
  | [.int n, .list ds] => (prsL ds).bind fun es => if LogIn n es then some (dLL (g n es), true) else none
  | _ => none
def fn_ends : FnZ
  | [.int n, .list ds] => (prsL ds).bind fun es => if LogIn n es then some (dL (endsF n es), true) else none
  | _ => none
def fn_ways : FnZ := fn_rows waysF
/-- the heap of what was frozen and what is new -/
def newH (H G H' : Hp) : Hp := fun c => if H c = none then H' c else G c
theorem newH_old {H G H' : Hp} {c : Addr} (h : H c ≠ none) : newH H G H' c = G c := if_neg h
theorem newH_new {H G H' : Hp} {c : Addr} (h : H c = none) : newH H G H' c = H' c := if_pos h
theorem grow_newH {H G H' : Hp} (gh : Same G H) (s : Same H H') : Grow G H (newH H G H') H' := by
  refine ⟨s, fun c o e => ?_, fun c o e => ?_, fun c h e => ?_⟩
  · rw [newH_old (by rw [gh _ _ e]; exact fun z => nomatch z)]
    exact e
  · by_cases h : H c = none
    · rw [newH_new h] at e
      exact e
    · rw [newH_old h] at e
      exact s _ _ (gh _ _ e)
  · rw [newH_old h]
    exact e
theorem two_args {G : Hp} {vs : List V} {n : Int} {es : List (Int × Int)} (r : RpA (fun _ => True) G vs [.int n, .list (es.map dP)]) : ∃ a ts, vs = [.int n, .ref a] ∧ G a = some (.lst (ts.map V.ref)) ∧ Prs G ts es := by
  cases r with
  | cons r1 r =>
  cases r with
  | cons r2 r =>
  cases r
  cases r1
  cases r2 with
  | lst h _ ra =>
    obtain ⟨ts, rfl, p⟩ := ra.prs
    exact ⟨_, ts, rfl, h, p⟩
theorem Prs.same {G H : Hp} (s : Same G H) {ts : List Addr} {es : List (Int × Int)} (h : Prs G ts es) : Prs H ts es := h.keep fun t xs e => s _ _ e
section
variable {vs : List V} {H : Hp} {Q : VK}
theorem lift_cells (h : spZ fn_check_cells vs H Q E0) : ∃ n : Int, vs = [.int n] ∧ 1 ≤ n ∧ n ≤ 16 ∧ Q .non H := by
  obtain ⟨Z, G, ds, r, e, hZ, gh, rs, q⟩ := h
  unfold fn_check_cells at e
  split at e
  · rename_i n
    split at e
    · rename_i hn
      cases e
      cases rs with
      | cons r1 rs =>
      cases rs
      cases r1
      exact ⟨n, rfl, hn.1, hn.2, q .non H G (Grow.refl gh) .non⟩
    · cases e
  · cases e
theorem lift_web {K : PySem.W.Frag} (h : spZ fn_check_web vs H Q E0) : ∃ (n : Int) (a : Addr) (es : List (Int × Int)), vs = [.int n, .ref a] ∧ WebAt K H a es ∧ (∃ xs, H a = some (.lst xs)) ∧ Asc es ∧ Inb n es ∧ ∀ H', Same H H' → Q .non H' := by
  obtain ⟨Z, G, ds, r, e, hZ, gh, rs, q⟩ := h
  unfold fn_check_web at e
  split at e
  · rename_i n ds
    obtain ⟨es, e1, e2⟩ := Option.bind_eq_some_iff.mp e
    cases prsL_eq e1
    split at e2
    · rename_i hn
      cases e2
      obtain ⟨a, ts, rfl, ha, p⟩ := two_args rs
      exact ⟨n, a, es, rfl, ⟨ts, sqL_of (gh _ _ ha), p.same gh⟩, ⟨_, gh _ _ ha⟩, hn.1, hn.2, fun H' s => q .non H' (newH H G H') (grow_newH gh s) .non⟩
    · cases e2
  · cases e
theorem lift_log (h : spZ fn_check_log vs H Q E0) : ∃ (n : Int) (a : Addr) (es : List (Int × Int)), vs = [.int n, .ref a] ∧ WebL H a es ∧ es.Nodup ∧ es.length < 64 ∧ Inb n es ∧ ∀ H', Same H H' → Q .non H' := by
  obtain ⟨Z, G, ds, r, e, hZ, gh, rs, q⟩ := h
  unfold fn_check_log at e
  split at e
  · rename_i n ds
    obtain ⟨es, e1, e2⟩ := Option.bind_eq_some_iff.mp e
    cases prsL_eq e1
    split at e2
    · rename_i hn
      cases e2
      obtain ⟨a, ts, rfl, ha, p⟩ := two_args rs
      exact ⟨n, a, es, rfl, ⟨ts, gh _ _ ha, p.same gh⟩, hn.1, hn.2.1, hn.2.2, fun H' s => q .non H' (newH H G H') (grow_newH gh s) .non⟩
    · cases e2
  · cases e
theorem lift_ends (h : spZ fn_ends vs H Q E0) : ∃ (n : Int) (a : Addr) (es : List (Int × Int)), vs = [.int n, .ref a] ∧ WebL H a es ∧ 1 ≤ n ∧ n ≤ 16 ∧ Inb n es ∧ es.Nodup ∧ es.length < 64 ∧
    ∀ (H' : Hp) (p : Addr), Same H H' → H p = none → H' p = some (.lst ((endsF n es).map V.int)) → Q (.ref p) H' := by
  obtain ⟨Z, G, ds, r, e, hZ, gh, rs, q⟩ := h
  unfold fn_ends at e
  split at e
  · rename_i n ds
    obtain ⟨es, e1, e2⟩ := Option.bind_eq_some_iff.mp e
    cases prsL_eq e1
    split at e2
    · rename_i hn
      cases e2
      obtain ⟨a, ts, rfl, ha, p⟩ := two_args rs
      obtain ⟨h1, h2, h3, h4, h5⟩ := hn
      exact ⟨n, a, es, rfl, ⟨ts, gh _ _ ha, p.same gh⟩, h1, h2, h3, h4, h5, fun H' p s hp hp' => q _ H' (newH H G H') (grow_newH gh s) (.lst (by rw [newH_new hp]; exact hp') (fun _ => hZ _ hp) (ints_rp _))⟩
    · cases e2
  · cases e
theorem lift_rows {g : Int → List (Int × Int) → List (List Int)} (h : spZ (fn_rows g) vs H Q E0) : ∃ (n : Int) (a : Addr) (es : List (Int × Int)), vs = [.int n, .ref a] ∧ WebL H a es ∧ 1 ≤ n ∧ n ≤ 16 ∧ Inb n es ∧ es.Nodup ∧ es.length < 64 ∧
    ∀ (H' : Hp) (p : Addr) (as : List Addr), Same H H' → H p = none → (∀ b ∈ as, H b = none) → as.Nodup → LLAt H' p as (g n es) → Q (.ref p) H' := by
  obtain ⟨Z, G, ds, r, e, hZ, gh, rs, q⟩ := h
  unfold fn_rows at e
  split at e
  · rename_i n ds
    obtain ⟨es, e1, e2⟩ := Option.bind_eq_some_iff.mp e
    cases prsL_eq e1
    split at e2
    · rename_i hn
      cases e2
      obtain ⟨a, ts, rfl, ha, p⟩ := two_args rs
      obtain ⟨h1, h2, h3, h4, h5⟩ := hn
      refine ⟨n, a, es, rfl, ⟨ts, gh _ _ ha, p.same gh⟩, h1, h2, h3, h4, h5, fun H' p as s hp hb _ hp' => q _ H' (newH H G H') (grow_newH gh s) (.lst (by rw [newH_new hp]; exact hp'.1) (fun _ => hZ _ hp) (Rws.rp (hp'.2.keep fun b m o e => by rw [newH_new (hb b m)]; exact e) fun b m _ => hZ _ (hb b m)))⟩
    · cases e2
  · cases e
end
theorem runL {n : Int} {es : List (Int × Int)} (h : LogIn n es) : fn_ends [.int n, .list (es.map dP)] = some (dL (endsF n es), true) := by
  show (prsL (es.map dP)).bind _ = _
  rw [prsL_map]
  show (if LogIn n es then _ else _) = _
  rw [if_pos h]
theorem runW {g : Int → List (Int × Int) → List (List Int)} {n : Int} {es : List (Int × Int)} (h : LogIn n es) : fn_rows g [.int n, .list (es.map dP)] = some (dLL (g n es), true) := by
  show (prsL (es.map dP)).bind _ = _
  rw [prsL_map]
  show (if LogIn n es then _ else _) = _
  rw [if_pos h]
theorem runC {n : Int} (h1 : 1 ≤ n) (h2 : n ≤ 16) : fn_check_cells [.int n] = some (.none, true) := if_pos ⟨h1, h2⟩
theorem runB {n : Int} {es : List (Int × Int)} (h1 : Asc es) (h2 : Inb n es) : fn_check_web [.int n, .list (es.map dP)] = some (.none, true) := by
  show (prsL (es.map dP)).bind _ = _
  rw [prsL_map]
  show (if Asc es ∧ Inb n es then _ else _) = _
  rw [if_pos ⟨h1, h2⟩]
end Un

set_option maxRecDepth 100000
set_option maxHeartbeats 8000000
namespace Un
open PySem PySem.Spec PyProof.Rows L2
-- bridges: 0:cells 1:web 2:joining 3:one
def a_bridges : STs := (.cons (.drop (.call fn_check_cells (.cons (.var 0) .nil)))
    (.cons (.drop (.call fn_check_web (.cons (.var 0) (.cons (.var 1) .nil))))
    (.cons (.asg (.nm 2) (.call fn_joining_of (.cons (.var 0) (.cons (.var 1) .nil))))
    (.one (.ret (.lc .list (.cons (.var 2) .nil) (.nm 3) (.at (.val (.bin .lt (.cb .len (.cons (.call fn_joining_of (.cons (.var 0) (.cons (.call fn_web_without (.cons (.var 1) (.cons (.var 3) .nil))) .nil))) .nil)) (.cb .len (.cons (.var 2) .nil))))) (.var 3) [3]))))))
def fn_bridges : FnZ := runZ 2 4 a_bridges
-- is_tree: 0:cells 1:web
def a_is_tree : STs := (.cons (.drop (.call fn_check_cells (.cons (.var 0) .nil)))
    (.cons (.drop (.call fn_check_web (.cons (.var 0) (.cons (.var 1) .nil))))
    (.one (.ret (.call fn_forms_tree (.cons (.var 0) (.cons (.var 1) .nil)))))))
def fn_is_tree : FnZ := runZ 2 2 a_is_tree
-- _law_pieces: 0:_law_size 1:_law_some 2:_law_marks 3:_law_one 4:_law_two 5:_law_told 6:_law_k 7:_law_piece 8:_law_mark 9:_law_other
def a_l_pieces_1 : STs := (.one (.asg (.nm 2) (.lc .list (.cons (.var 2) .nil) (.nm 8) .no (.ife (.val (.bin .eq (.var 8) (.bin .ix (.var 2) (.var 4)))) (.bin .ix (.var 2) (.var 3)) (.var 8)) [8])))
def a_l_pieces_2 : STs := (.cons (.asg (.nm 7) (.lc .rng2 (.cons (.cst (.int 1)) (.cons (.bin .add (.var 0) (.cst (.int 1))) .nil)) (.nm 9) (.at (.val (.bin .eq (.bin .ix (.var 2) (.var 9)) (.bin .ix (.var 2) (.var 6))))) (.var 9) [9]))
      (.one (.asg (.nm 5) (.bin .add (.var 5) (.bin .mul (.lst (.cons (.var 7) .nil)) (.cb .int (.cons (.bin .eq (.bin .ix (.var 7) (.cst (.int 0))) (.var 6)) .nil)))))))
def a_l_pieces : STs := (.cons (.asg (.nm 2) (.lrg1 (.bin .add (.var 0) (.cst (.int 1)))))
    (.cons (.for .list (.cons (.var 1) .nil) (.tp [3, 4]) a_l_pieces_1)
    (.cons (.asg (.nm 5) (.lst .nil))
    (.cons (.for .rng2 (.cons (.cst (.int 1)) (.cons (.bin .add (.var 0) (.cst (.int 1))) .nil)) (.nm 6) a_l_pieces_2)
    (.one (.ret (.var 5)))))))
def fn_l_pieces : FnZ := runZ 2 10 a_l_pieces
-- _law_ends: 0:_law_size 1:_law_made 2:_law_things 3:_law_one 4:_law_two 5:_law_told 6:_law_k
def a_l_ends_1 : STs := (.one (.set2 (.bin .ix (.var 2) (.var 4)) (.bin .ix (.var 2) (.var 3)) 2 (.var 3) 2 (.var 4)))
def a_l_ends_2 : STs := (.one (.set 5 (.bin .sub (.bin .ix (.var 2) (.var 6)) (.cst (.int 1))) (.var 6)))
def a_l_ends : STs := (.cons (.asg (.nm 2) (.lrg1 (.bin .add (.var 0) (.cst (.int 1)))))
    (.cons (.for .list (.cons (.var 1) .nil) (.tp [3, 4]) a_l_ends_1)
    (.cons (.asg (.nm 5) (.bin .mul (.lst (.cons (.cst (.int 0)) .nil)) (.var 0)))
    (.cons (.for .rng2 (.cons (.cst (.int 1)) (.cons (.bin .add (.var 0) (.cst (.int 1))) .nil)) (.nm 6) a_l_ends_2)
    (.one (.ret (.var 5)))))))
def fn_l_ends : FnZ := runZ 2 7 a_l_ends
-- _law_rounds: 0:_law_told 1:_law_some 2:_law_k 3:_law_ring
def a_l_rounds_1 : STs := (.one (.app 3 (.bin .ix (.var 0) (.bin .sub (.bin .ix (.var 3) (.un .neg (.cst (.int 1)))) (.cst (.int 1))))))
def a_l_rounds_2 : STs := (.cons (.asg (.nm 3) (.lst (.cons (.var 2) .nil)))
      (.cons (.whl (.val (.bin .ne (.bin .ix (.var 0) (.bin .sub (.bin .ix (.var 3) (.un .neg (.cst (.int 1)))) (.cst (.int 1)))) (.var 2))) 1000 a_l_rounds_1)
      (.one (.asg (.nm 1) (.bin .add (.var 1) (.bin .mul (.lst (.cons (.var 3) .nil)) (.cb .int (.cons (.bin .eq (.cb .minL (.cons (.var 3) .nil)) (.var 2)) .nil))))))))
def a_l_rounds : STs := (.cons (.asg (.nm 1) (.lst .nil))
    (.cons (.for .rng2 (.cons (.cst (.int 1)) (.cons (.bin .add (.cb .len (.cons (.var 0) .nil)) (.cst (.int 1))) .nil)) (.nm 2) a_l_rounds_2)
    (.one (.ret (.var 1)))))
def fn_l_rounds : FnZ := runZ 1 4 a_l_rounds
-- _law_every: 0:_law_size 1:_law_told 2:_law_one 3:_law_two
def a_l_every_1 : STs := (.one (.asg (.nm 1) (.bin .add (.var 1) (.lc .rng2 (.cons (.bin .add (.var 2) (.cst (.int 1))) (.cons (.bin .add (.var 0) (.cst (.int 1))) .nil)) (.nm 3) .no (.tup (.cons (.var 2) (.cons (.var 3) .nil))) [3]))))
def a_l_every : STs := (.cons (.asg (.nm 1) (.lst .nil))
    (.cons (.for .rng2 (.cons (.cst (.int 1)) (.cons (.bin .add (.var 0) (.cst (.int 1))) .nil)) (.nm 2) a_l_every_1)
    (.one (.ret (.var 1)))))
def fn_l_every : FnZ := runZ 1 4 a_l_every
-- _law_side: 0:_law_size 1:_law_some 2:_law_pair 3:_law_left 4:_law_other 5:_law_piece
def a_l_side : STs := (.cons (.asg (.nm 3) (.lc .list (.cons (.var 1) .nil) (.nm 4) (.at (.val (.bin .ne (.var 4) (.var 2)))) (.var 4) [4]))
    (.one (.ret (.bin .ix (.lc .list (.cons (.call fn_l_pieces (.cons (.var 0) (.cons (.var 3) .nil))) .nil) (.nm 5) (.at (.val (.bin .isin (.bin .ix (.var 2) (.cst (.int 0))) (.var 5)))) (.var 5) [5]) (.cst (.int 0))))))
def fn_l_side : FnZ := runZ 3 6 a_l_side
-- _law_bridges: 0:_law_size 1:_law_some 2:_law_pair
def a_l_bridges : STs := (.one (.ret (.lc .list (.cons (.var 1) .nil) (.nm 2) (.at (.val (.bin .notin (.bin .ix (.var 2) (.cst (.int 1))) (.call fn_l_side (.cons (.var 0) (.cons (.var 1) (.cons (.var 2) .nil))))))) (.var 2) [2])))
def fn_l_bridges : FnZ := runZ 2 3 a_l_bridges
end Un

set_option maxRecDepth 100000
set_option maxHeartbeats 4000000
namespace Un
open PySem PySem.Spec PyProof.Rows L2 LamX
/-! ### lambdas as values: their objects and the cells of what they hold are told by the abstract heap -/
/-- the cell at c, as it stands -/
def CellX (c : Addr) (ob : Obj) : HO := .ext fun h => h.get? c = some ob
/-- the lambda's object at f -/
def CloX (f : Addr) (q : PySem.Str) (ps : Arguments) (b : Expr) (sc : Scope) (cl : List (PySem.Str × Addr)) (c' : Addr) : HO := .ext fun h => ∃ pm ctv, h.get? f = some (PySem.W.kla_obj "<lambda>" q ps b sc cl pm c' ctv)
/-- a lambda's text; N: the names that it takes from around -/
structure LamD where
  q : PySem.Str
  ps : Arguments
  b : Expr
  sc : Scope
  N : List PySem.Str
structure LamOk (D : LamD) : Prop where
  kind : D.sc.kind = .function
  co : D.sc.isCoroutine = false
  gen : D.sc.isGenerator = false
  own : ∀ y ∈ D.sc.names, y.2 ≠ .local ∧ y.2 ≠ .cell
  nd : D.N.Nodup
  free : ∀ y ∈ D.sc.names, y.2 = .free → y.1 ∈ D.N
  look : ∀ x ∈ D.N, D.sc.names.lookup x = some .free
  bind : ∀ (cl : List (PySem.Str × Addr)) (pm cv ctv : Value), bindArgs (PySem.W.kla_fn "<lambda>" D.q D.ps D.b D.sc cl pm cv ctv) ⟨[], []⟩ = pure []
def lamDB (D : LamD) : Bool := decide (D.sc.kind = .function) && !D.sc.isCoroutine && !D.sc.isGenerator && (D.sc.names.all fun y => !decide (y.2 = .local) && !decide (y.2 = .cell) && (!decide (y.2 = .free) || D.N.contains y.1)) && decide D.N.Nodup && D.N.all fun x => decide (D.sc.names.lookup x = some .free)
theorem lamOk_by {D : LamD} (h : lamDB D = true) (hb : ∀ (cl : List (PySem.Str × Addr)) (pm cv ctv : Value), bindArgs (PySem.W.kla_fn "<lambda>" D.q D.ps D.b D.sc cl pm cv ctv) ⟨[], []⟩ = pure []) : LamOk D := by
  unfold lamDB at h
  simp only [Bool.and_eq_true, Bool.or_eq_true, Bool.not_eq_true', decide_eq_true_eq, decide_eq_false_iff_not, List.all_eq_true] at h
  obtain ⟨⟨⟨⟨⟨h1, h2⟩, h3⟩, h4⟩, h5⟩, h6⟩ := h
  refine ⟨h1, h2, h3, fun y hy => (h4 y hy).1, h5, fun y hy e => ?_, h6, hb⟩
  rcases (h4 y hy).2 with z | z
  · exact absurd e z
  · simpa using z
/-- f is this lambda, with these values -/
def CloIs (H : Hp) (f : Addr) (D : LamD) (vs : List V) : Prop := ∃ (cl : List (PySem.Str × Addr)) (c' : Addr), H f = some (CloX f D.q D.ps D.b D.sc cl c') ∧ H c' = some (CodeO c' D.q) ∧ (∀ x y c, cl.lookup x = some c → cl.lookup y = some c → x = y) ∧
  (∀ x c, cl.lookup x = some c → x ∈ D.N) ∧ vs.length = D.N.length ∧ ∀ (i : Nat) (x : PySem.Str) (v : V), D.N[i]? = some x → vs[i]? = some v → ∃ c ob u, cl.lookup x = some c ∧ H c = some (CellX c ob) ∧ ob.data = .cell (some u) ∧ RelV v u
theorem CloIs.same {H H' : Hp} {f : Addr} {D : LamD} {vs : List V} (h : CloIs H f D vs) (s : ∀ b o, H b = some o → (∀ ps, o ≠ .tbl ps) → H' b = some o) : CloIs H' f D vs := by
  obtain ⟨cl, c', h1, h2, h3, h4, h5, h6⟩ := h
  refine ⟨cl, c', s _ _ h1 (fun ps z => by unfold CloX at z; cases z), s _ _ h2 (fun ps => codeO_ne ps), h3, h4, h5, fun i x v e1 e2 => ?_⟩
  obtain ⟨c, ob, u, e3, e4, e5, e6⟩ := h6 i x v e1 e2
  exact ⟨c, ob, u, e3, s _ _ e4 (fun ps z => by unfold CellX at z; cases z), e5, e6⟩
/-! ### the heap without some cells; with them again -/
def InC (cl : List (PySem.Str × Addr)) (b : Addr) : Prop := ∃ x, cl.lookup x = some b
open Classical in
noncomputable def unc (cl : List (PySem.Str × Addr)) (H : Hp) : Hp := fun b => if InC cl b then none else H b
open Classical in
noncomputable def rec' (cl : List (PySem.Str × Addr)) (H H' : Hp) : Hp := fun b => if InC cl b then H b else H' b
theorem unc_in {cl : List (PySem.Str × Addr)} {H : Hp} {b : Addr} (h : InC cl b) : unc cl H b = none := if_pos h
theorem unc_out {cl : List (PySem.Str × Addr)} {H : Hp} {b : Addr} (h : ¬ InC cl b) : unc cl H b = H b := if_neg h
theorem rec_in {cl : List (PySem.Str × Addr)} {H H' : Hp} {b : Addr} (h : InC cl b) : rec' cl H H' b = H b := if_pos h
theorem rec_out {cl : List (PySem.Str × Addr)} {H H' : Hp} {b : Addr} (h : ¬ InC cl b) : rec' cl H H' b = H' b := if_neg h
/-- the cells stand at H -/
def CellsAt (cl : List (PySem.Str × Addr)) (H : Hp) : Prop := ∀ b, InC cl b → ∃ ob u, H b = some (CellX b ob) ∧ ob.data = .cell u
section
variable {cl : List (PySem.Str × Addr)} {H H' : Hp} {h h' B : Heap} {P : Program} {w : World} {fs : List Addr}
theorem CellsAt.own (hc : CellsAt cl H) {b a : Addr} (e : H b = some (.own a)) : ¬ InC cl b := fun z => by
  obtain ⟨ob, u, e', _⟩ := hc b z
  rw [e] at e'
  unfold CellX at e'
  cases e'
theorem CellsAt.tup (hc : CellsAt cl H) {b : Addr} {xs : List V} (e : H b = some (.tup xs)) : ¬ InC cl b := fun z => by
  obtain ⟨ob, u, e', _⟩ := hc b z
  rw [e] at e'
  unfold CellX at e'
  cases e'
theorem CellsAt.frz (hc : CellsAt cl H) {b : Addr} {o : Obj} {u : HO} (e : H b = some (.frz o u)) : ¬ InC cl b := fun z => by
  obtain ⟨ob, u', e', _⟩ := hc b z
  rw [e] at e'
  unfold CellX at e'
  cases e'
theorem CellsAt.tbl (hc : CellsAt cl H) {b : Addr} {ps : Array Value} (e : H b = some (.tbl ps)) : ¬ InC cl b := fun z => by
  obtain ⟨ob, u', e', _⟩ := hc b z
  rw [e] at e'
  unfold CellX at e'
  cases e'
theorem CellsAt.lst (hc : CellsAt cl H) {b : Addr} {xs : List V} (e : H b = some (.lst xs)) : ¬ InC cl b := fun z => by
  obtain ⟨ob, u', e', _⟩ := hc b z
  rw [e] at e'
  unfold CellX at e'
  cases e'
theorem CellsAt.real (hc : CellsAt cl H) (hok : HOk P w H h) {b : Addr} (z : InC cl b) : ∃ ob u, H b = some (CellX b ob) ∧ h.get? b = some ob ∧ ob.data = .cell u := by
  obtain ⟨ob, u, e, d⟩ := hc b z
  obtain ⟨e2, _⟩ := hok b _ e
  exact ⟨ob, u, e, e2, d⟩
/-- what is told of the heap stays so without the cells -/
theorem hok_unc (hc : CellsAt cl H) (hok : HOk P w H h) : HOk P w (unc cl H) h := fun b o e => by
  by_cases z : InC cl b
  · rw [unc_in z] at e
    cases e
  · rw [unc_out z] at e
    exact (hok b o e).stay (fun _ _ _ q => q) (fun c q => by rw [unc_out (hc.own q)]; exact q) fun c xs q => by rw [unc_out (hc.tup q)]; exact q
/-- .. and with the cells again -/
theorem hok_rec (hc : CellsAt cl H) (hok : HOk P w H h) (hok' : HOk P w H' h') (keep : ∀ b o, InC cl b → h.get? b = some o → h'.get? b = some o) (hn : ∀ b, InC cl b → H' b = none) : HOk P w (rec' cl H H') h' := fun b o e => by
  by_cases z : InC cl b
  · rw [rec_in z] at e
    obtain ⟨ob, u, e1, e2, _⟩ := hc.real hok z
    rw [e1] at e
    cases e
    exact ⟨keep b ob z e2, ⟨ob, keep b ob z e2⟩, fun h1 h2 p1 st => st _ p1⟩
  · rw [rec_out z] at e
    have out : ∀ c u, H' c = some u → ¬ InC cl c := fun c u q zz => by
      rw [hn c zz] at q
      cases q
    exact (hok' b o e).stay (fun _ _ _ q => q) (fun c q => by rw [rec_out (out c _ q)]; exact q) fun c xs q => by rw [rec_out (out c _ q)]; exact q
theorem un_rec {ex : List Addr} (hc : CellsAt cl H) (u : Un fs ex (unc cl H) H' h h') : Un fs ex H (rec' cl H H') h h' where
  keep := fun b o e n hb hx => u.keep b o e (by rw [unc_out fun z => by obtain ⟨_, _, q, _⟩ := hc b z; rw [n] at q; cases q]; exact n) hb hx
  slot := fun b o e n hb hx => u.slot b o e (by rw [unc_out fun z => by obtain ⟨_, _, q, _⟩ := hc b z; rw [n] at q; cases q]; exact n) hb hx
  free := fun b o e n hx => by
    have nz : ¬ InC cl b := fun z => by obtain ⟨_, _, q, _⟩ := hc b z; rw [n] at q; cases q
    rw [rec_out nz]
    exact u.free b o e (by rw [unc_out nz]; exact n) hx
  there := u.there
  tups := fun b xs e => by rw [rec_out (hc.tup e)]; exact u.tups b xs (by rw [unc_out (hc.tup e)]; exact e)
  frzs := fun b o v e => by rw [rec_out (hc.frz e)]; exact u.frzs b o v (by rw [unc_out (hc.frz e)]; exact e)
  tbls := fun b ps e => by rw [rec_out (hc.tbl e)]; exact u.tbls b ps (by rw [unc_out (hc.tbl e)]; exact e)
end
end Un

set_option maxRecDepth 100000
set_option maxHeartbeats 4000000
namespace Un
open PySem PySem.Spec PyProof.Rows L2 LamX
/-! ### a lambda called -/
/-- what a lambda promises, its values as parameters; the cells stand at the heap -/
structure FnL (P : Program) (w : World) (K : PySem.W.Frag) (mg : PySem.Str → Option Value) (base : Heap) (k : Nat) (D : LamD) (sp : Sp) : Prop where
  run : ∀ (A : Around) (outer : List Env) (s : Shared) (H : Hp) (f : Addr) (vs : List V) (Q : VK) (E : XK), Room k A → Env0 P w K mg base A outer s H → CloIs H f D vs → sp vs H Q E →
    codeAny (model P w) A (.call (.ref f) ⟨[], []⟩) (CR (L2.CX P w) outer P w H s Q E) s
abbrev lamE (D : LamD) (L f c' : Addr) (cl : List (PySem.Str × Addr)) : Env := PySem.W.envX D.q D.sc L f (.ref c') cl
/-- the context of its body -/
def lamC (P : Program) (w : World) (K : PySem.W.Frag) (mg : PySem.Str → Option Value) (base : Heap) (D : LamD) (A : Around) (outer : List Env) (s : Shared) (H : Hp) (E : XK) (f c' : Addr) (cl : List (PySem.Str × Addr)) : Cx where
  prog := P
  w := w
  K := K
  mg := mg
  base := base
  A := A.deeper (lamE D s.heap.objs.size f c' cl)
  N := D.N
  s_0 := s
  H_0 := H
  env := lamE D s.heap.objs.size f c' cl
  outer := outer
  stack := lamE D s.heap.objs.size f c' cl :: outer
  ex := []
  fn := fun _ => false
  calm := true
  pn := []
  xe := fun e s' => wpAny (model P w) (A.deeper (lamE D s.heap.objs.size f c' cl)) (leaving (lamE D s.heap.objs.size f c' cl) e) (fun _ s2 => L2.CX P w outer H s E e s2) (fun e2 s2 => L2.CX P w outer H s E e2 s2) s'
section
variable {P : Program} {w : World} {K : PySem.W.Frag} {mg : PySem.Str → Option Value} {base : Heap} {D : LamD} {A : Around} {outer : List Env} {s : Shared} {H : Hp} {E : XK} {f c' : Addr} {cl : List (PySem.Str × Addr)}
theorem lamC_start {vs : List V} {h1 : Heap} {tk : Nat} (L : LamOk D) (e0 : Env0 P w K mg base A outer s H) (hd : A.handled = none) (hc : CellsAt cl H) (inj : ∀ x y c, cl.lookup x = some c → cl.lookup y = some c → x = y)
    (hin : ∀ x c, cl.lookup x = some c → x ∈ D.N) (hl : vs.length = D.N.length) (hv : ∀ (i : Nat) (x : PySem.Str) (v : V), D.N[i]? = some x → vs[i]? = some v → ∃ c ob u, cl.lookup x = some c ∧ H c = some (CellX c ob) ∧ ob.data = .cell (some u) ∧ RelV v u)
    (hns : h1.Ns s.heap.objs.size fun y => ([] : List (PySem.Str × Value)).reverse.lookup y) (kp : ∀ b o, s.heap.get? b = some o → h1.get? b = some o) :
    Inv (lamC P w K mg base D A outer s (unc cl H) E f c' cl) [] (vs.map some) (unc cl H) { s with heap := h1, toks := tk } := by
  have noL : ∀ y, D.sc.names.lookup y = some .local → False := fun y hy => (L.own _ (PySem.mem_of_lookup hy)).1 rfl
  have noC : ∀ y, D.sc.names.lookup y = some .cell → False := fun y hy => (L.own _ (PySem.mem_of_lookup hy)).2 rfl
  have none_ : ∀ b, H b = none → unc cl H b = none := fun b n => by
    by_cases z : InC cl b
    · exact unc_in z
    · rw [unc_out z]
      exact n
  have val : ∀ x ∈ D.N, ∃ c ob u, cl.lookup x = some c ∧ H c = some (CellX c ob) ∧ ob.data = .cell (some u) ∧ ∃ i v, D.N[i]? = some x ∧ vs[i]? = some v ∧ RelV v u := fun x hx => by
    obtain ⟨i, hi, e⟩ := List.getElem_of_mem hx
    obtain ⟨c, ob, u, h1, h2, h3, h4⟩ := hv i x vs[i] (by rw [List.getElem?_eq_getElem hi, e]) (List.getElem?_eq_getElem (by omega))
    exact ⟨c, ob, u, h1, h2, h3, i, vs[i], by rw [List.getElem?_eq_getElem hi, e], List.getElem?_eq_getElem (by omega), h4⟩
  have cell : ∀ {c : Addr} {ob : Obj} {u : Option Value}, H c = some (CellX c ob) → ob.data = .cell u → h1.IsCell c u := fun {c ob u} e d => by
    obtain ⟨e2, _⟩ := e0.hok c _ e
    exact ⟨ob, kp _ _ e2, d⟩
  have frN : ∀ b ∈ frs outer, unc cl H b = none := fun b hb => none_ b (e0.frf b hb)
  refine ⟨⟨e0.mod, L.kind, rfl, rfl, Nat.le_refl _, fun x y c => inj x y c, fun y hy => ?_, (fun x c z => by cases z), fun _ => hd, Around.frames_deeper e0.frames, .inr ⟨rfl, rfl⟩, (fun b hb => nomatch hb), fun b o e => ⟨(e0.bs b o e).1, none_ b (e0.bs b o e).2⟩, e0.bsz, (fun b o e hb => nomatch hb), (fun b hb => nomatch hb), e0.funs, frN⟩,
    rfl, e0.bare, Un.kept kp, ⟨_, hns, fun i x v e1 e2 e3 => ?_⟩, fun x c e => ?_, none_ _ (e0.hok.fresh (Nat.le_refl _)), fun x c e => unc_in ⟨x, e⟩, (fun p hp => nomatch hp), (hok_unc hc e0.hok).kept kp, by rw [List.length_map]; exact hl⟩
  · have hy : D.sc.names.lookup y = some .cell ∨ D.sc.names.lookup y = some .free := hy
    rcases hy with hy | hy
    · exact (noC y hy).elim
    · obtain ⟨c, _, _, h, _⟩ := val y (L.free _ (PySem.mem_of_lookup hy) rfl)
      exact ⟨c, h⟩
  · have e2 : (vs.map some)[i]? = some (some v) := e2
    rw [List.getElem?_map] at e2
    obtain ⟨v', e2, e4⟩ := Option.map_eq_some_iff.mp e2
    cases e4
    obtain ⟨c, ob, u, h1', h2', h3', h4'⟩ := hv i x v e1 e2
    exact ⟨u, h4', .inr ⟨.inr (L.look x (List.mem_of_getElem? e1)), c, h1', cell h2' h3'⟩⟩
  · obtain ⟨c2, ob, u, h1', h2', h3', _⟩ := val x (hin x c e)
    have e : cl.lookup x = some c := e
    rw [e] at h1'
    cases h1'
    exact ⟨_, cell h2' h3'⟩
/-- what the exception left, with the cells again -/
theorem cx_rec {u : Value} {s' : Shared} (hc : CellsAt cl H) (hok : HOk P w H s.heap) (hf : ∀ b ∈ frs outer, H b = none) (c : L2.CX P w outer (unc cl H) s (fun cls d H' => (∀ b, InC cl b → H' b = none) → E cls d (rec' cl H H')) u s') : L2.CX P w outer H s E u s' := by
  obtain ⟨a, B, H', cls, d, e, fl, hB, ub, na, os, ag, q⟩ := c
  have nfs : ∀ b, InC cl b → b ∉ frs outer := fun b z hb => by
    obtain ⟨_, _, h, _⟩ := hc b z
    rw [hf b hb] at h
    cases h
  have cellB : ∀ b ob, InC cl b → s.heap.get? b = some ob → B.get? b = some ob := fun b ob z h => ub.keep b ob h (unc_in z) (nfs b z)
  have hn : ∀ b, InC cl b → H' b = none := fun b z => by
    obtain ⟨ob, u, _, h, _⟩ := hc.real hok z
    exact ub.free b ob h (unc_in z)
  have nz : ∀ {b}, H b = none → ¬ InC cl b := fun {b} n z => by
    obtain ⟨_, _, h, _⟩ := hc b z
    rw [n] at h
    cases h
  refine ⟨a, B, rec' cl H H', cls, d, e, fl, hok_rec hc hok hB cellB hn, ⟨fun b o h n hb => ub.keep b o h (by rw [unc_out (nz n)]; exact n) hb, ub.slot, fun b o h n => by rw [rec_out (nz n)]; exact ub.free b o h (by rw [unc_out (nz n)]; exact n), ub.there,
    fun b xs h => by rw [rec_out (hc.tup h)]; exact ub.tups b xs (by rw [unc_out (hc.tup h)]; exact h), fun b o v h => by rw [rec_out (hc.frz h)]; exact ub.frzs b o v (by rw [unc_out (hc.frz h)]; exact h), fun b ps h => by rw [rec_out (hc.tbl h)]; exact ub.tbls b ps (by rw [unc_out (hc.tbl h)]; exact h)⟩, ?_, os, ag, q hn⟩
  rw [rec_out fun z => ?_]
  · exact na
  · obtain ⟨ob, u', _, h, _⟩ := hc.real hok z
    have := cellB a ob z h
    rw [fl.2.1] at this
    cases this
/-- THE RULE for a lambda: its body's reading -/
theorem fnL_ok {k : Nat} {sp : Sp} (L : LamOk D) (body : ∀ (A : Around) (outer : List Env) (s : Shared) (H : Hp) (E : XK) (f c' : Addr) (cl : List (PySem.Str × Addr)), Room k (A.deeper (lamE D s.heap.objs.size f c' cl)) →
    ∃ t, PE (lamC P w K mg base D A outer s H E f c' cl) D.b t ∧ ∀ (vs : List V) (H1 : Hp) (Q : VK) (E1 : XK), H = unc cl H1 → CellsAt cl H1 → E = (fun cls d H' => (∀ b, InC cl b → H' b = none) → E1 cls d (rec' cl H1 H')) → sp vs H1 Q E1 → t (vs.map some) H fun v H' => (∀ b, InC cl b → H' b = none) → Q v (rec' cl H1 H')) : FnL P w K mg base (k + 1) D sp := by
  refine ⟨fun A outer s H f vs Q E hr e0 hclo hsp => ?_⟩
  obtain ⟨cl, c', hF, hC, inj, hin, hl, hv⟩ := hclo
  have hc : CellsAt cl H := fun b ⟨x, hx⟩ => by
    obtain ⟨i, hi, e⟩ := List.getElem_of_mem (hin x b hx)
    obtain ⟨c, ob, u, h1, h2, h3, h4⟩ := hv i x vs[i] (by rw [List.getElem?_eq_getElem hi, e]) (List.getElem?_eq_getElem (by omega))
    rw [hx] at h1
    cases h1
    exact ⟨ob, _, h2, h3⟩
  obtain ⟨⟨pm, ctv, of⟩, _, _⟩ := e0.hok f _ hF
  obtain ⟨⟨oc, ws, t, hoc, hdc, hvc⟩, _, _⟩ := e0.hok c' _ hC
  obtain ⟨t0, ht, rd⟩ := body A outer s (unc cl H) (fun cls d H' => (∀ b, InC cl b → H' b = none) → E cls d (rec' cl H H')) f c' cl (hr.deeper _)
  have rd := rd vs H Q E rfl hc rfl hsp
  have same : ∀ b o, base.get? b = some o → s.heap.get? b = some o := fun b o e => (e0.bs b o e).1
  have nolim : s.heap.NoLimit := e0.mod.nolimit.keeps same
  refine PySem.W.kla_callFunE hr.depth of rfl L.co L.gen rfl ⟨c', oc, ws, t, rfl, hoc, hdc, hvc⟩ ?_
  rw [L.bind]
  refine wpAny_pure (wpAny_newFunctionEnv (fun y hy => (L.own y hy).2) (fun y hy => nomatch hy) (fun h1 hns hsb => ⟨nolim.fresh _ hsb, ?_⟩) L.kind)
  have kp : ∀ b o, s.heap.get? b = some o → h1.get? b = some o := fun b o e => hsb.extBut b o (Nat.ne_of_lt (Heap.lt_size e)) (Heap.get?_push_of_some _ e)
  have J := lamC_start (P := P) (w := w) (K := K) (mg := mg) (base := base) (E := fun cls d H' => (∀ b, InC cl b → H' b = none) → E cls d (rec' cl H H')) (f := f) (c' := c') (tk := s.toks + ([] : List (PySem.Str × Value)).length) L e0 hr.hd hc inj hin hl hv hns kp
  have conv : ∀ u s2, L2.CX P w outer (unc cl H) s (fun cls d H' => (∀ b, InC cl b → H' b = none) → E cls d (rec' cl H H')) u s2 → L2.CX P w outer H s E u s2 := fun u s2 => cx_rec hc e0.hok e0.frf
  show codeAny _ _ (.expr D.b (lamE D s.heap.objs.size f c' cl)) _ _
  refine PySem.W.kla_codeExpr (wpAny_mono (ht.run [] _ _ _ _ J rd) (fun v s2 hq => ?_) fun e s2 hq => ?_)
  · obtain ⟨x, H', J', rv, q⟩ := hq
    have hn : ∀ b, InC cl b → H' b = none := fun b z => by
      obtain ⟨y, hy⟩ := z
      exact J'.freeC y b hy
    have hnf : ∀ b, InC cl b → b ∉ frs outer := fun b z hb => by
      obtain ⟨_, _, h, _⟩ := hc b z
      rw [e0.frf b hb] at h
      cases h
    exact ⟨x, rec' cl H H', J'.os, J'.bare, un_rec hc J'.base, hok_rec hc e0.hok J'.hok (fun b o z h => J'.base.keep b o h (unc_in z) (hnf b z) (fun q => nomatch q)) hn, rv, q hn⟩
  · exact wpAny_mono (show wpAny _ _ _ _ _ _ from hq) (fun _ s3 z => conv _ _ z) fun e3 s3 z => conv _ _ z
end
end Un

set_option maxRecDepth 100000
set_option maxHeartbeats 4000000
namespace Un
open PySem PySem.Spec PyProof.Rows L2 LamX
section
variable {Z : Cx} {k i : Nat}
/-! ### x(), x a name that holds a lambda -/
def tClo (Z : Cx) (k i : Nat) (W : WX) : TE := fun σ H Q => ∃ (f : Addr) (D : LamD) (vs : List V) (sp : Sp), σ[i]? = some (some (.ref f)) ∧ FnL Z.prog Z.w Z.K Z.mg Z.base k D sp ∧ CloIs H f D vs ∧ sp vs H Q fun cls d H' => W cls d σ H'
theorem pe_clo {W : WX} {a : PySem.Str} {p1 p2 : Pos} (tk : Takes Z W) (hr : Room k Z.A) (hN : Z.N[i]? = some a) (hv : Vis Z.env.scope a) (hd : (a == ("__debug__" : PySem.Str)) = false := by decide) (hcd : (a == ("__classdict__" : PySem.Str)) = false := by decide) :
    PE Z (.Call (.Name a p1) [] [] p2) (tClo Z k i W) := by
  refine ⟨fun pins s σ H Q I h => ?_⟩
  obtain ⟨f, D, vs, sp, hs, F, hc, q⟩ := h
  refine wpAny_Call_Name_kw (thn ((pe_var (pos := p1) (i := i) hN hv hd hcd).run pins s σ H (fun v H1 => v = .ref f ∧ H1 = H) I ⟨.ref f, hs, rfl, rfl⟩) ?_)
  rintro u s1 ⟨v, H1, I1, r1, rfl, rfl⟩
  cases (show u = Value.ref f from r1)
  have hc0 := hc
  obtain ⟨cl, c', hF, _⟩ := hc0
  obtain ⟨⟨pm, ctv, of⟩, _, _⟩ := I1.hok f _ hF
  refine PySem.W.callWith_F0 ⟨_, _, _, _, of⟩ (wpAny_call (codeAny_mono (F.run Z.A Z.stack s1 H1 f vs Q _ hr I1.env0 hc q) ?_))
  intro r s2 hq
  cases r with
  | error e => exact tk e s2 (XE.of_call I1 (fun cls d H' z => z) hq)
  | ok fl =>
    cases fl with
    | ret z => exact I1.after hq
    | next => exact hq.elim
    | brk => exact hq.elim
    | cont => exact hq.elim
end
/-! ### a lambda made -/
section
variable {X : Cx} {pins : List (Addr × Obj)} {σ : L2.St} {H : Hp} {s : Shared}
theorem laid_clo {f c' : Addr} {q : PySem.Str} {ps : Arguments} {b : Expr} {sc : Scope} {cl : List (PySem.Str × Addr)} {pm ctv : Value} {h' : Heap} {tk : Nat} (I : Inv X pins σ H s) (k : ∀ b o, s.heap.get? b = some o → h'.get? b = some o) (hs : s.heap.objs.size ≤ f)
    (ho : h'.get? f = some (PySem.W.kla_obj "<lambda>" q ps b sc cl pm c' ctv)) : Inv X pins σ (upd H f (CloX f q ps b sc cl c')) { s with heap := h', toks := tk } :=
  I.laid k hs ⟨⟨pm, ctv, ho⟩, ⟨_, ho⟩, fun h1 h2 ⟨pm, ctv, e⟩ st => ⟨pm, ctv, st _ e⟩⟩
/-- T: the tables of the code objects -/
def tLamV (T : List (Addr × PySem.Str)) (cells : List (PySem.Str × Addr)) (q : PySem.Str) (ps : Arguments) (b : Expr) (sc : Scope) : TE := fun σ H Q => Tabs T H ∧ ∀ (f c' : Addr) (H1 : Hp), ExtN H H1 → Tabs T H1 → H1 f = none → H1 c' = some (CodeO c' q) →
  Q (.ref f) (upd H1 f (CloX f q ps b sc (cloFrom cells sc.names []) c'))
theorem pe_lam {T : List (Addr × PySem.Str)} {c P : Addr} {ps : Arguments} {b : Expr} {sc : Scope} {pos : Pos} (TB : TabB X.base X.mg c P) (hcode : X.env.code = .ref c) (hm : (P, X.env.qual ++ "<lambda>") ∈ T) (hu : ∀ p ∈ T, p.1 = P → p.2 = X.env.qual ++ "<lambda>")
    (hfree : X.Ok → ∀ y ∈ sc.names, y.2 = .free → ∃ c, X.env.cells.lookup y.1 = some c) (hdef : defaultsOf ps X.env = ([], []) := by rfl) : PE X (.Lambda ps b sc pos) (tLamV T X.env.cells (X.env.qual ++ "<lambda>") ps b sc) := by
  refine ⟨fun pins s σ H Q I h => ?_⟩
  obtain ⟨hT, h⟩ := h
  obtain ⟨tab, hP, ht, ha⟩ := hT _ hm
  have hP' : s.heap.get? P = some { cls := .none, data := .fields tab } := I.hok P _ hP
  have fr := hfree I.ok
  refine PySem.W.kla_eval hdef ?_
  cases hcv : codeAmong pos tab.toList with
  | some cv =>
    obtain ⟨c', rfl, hco⟩ := ha pos cv hcv
    refine PySem.W.kla_makeFunctionHit (mg := X.mg) (c := c) (P := P) (ps := tab) (closure_ok fr) I.ok.glob (I.mod.glob.keeps I.bk) hcode (TB.code.keeps I.bk) hP' ht hcv (TB.bm.keeps I.bk) fun ctv h1 tk hx hsz => ?_
    have n1 : H h1.objs.size = none := I.hok.fresh hsz
    exact ⟨.ref h1.objs.size, _, laid_clo I (fun b o e => Heap.get?_push_of_some _ (hx b o e)) hsz (Heap.get?_push_size _ rfl), rfl, h h1.objs.size c' H (ExtN.refl H) hT n1 hco⟩
  | none =>
    refine PySem.W.kla_makeFunction (mg := X.mg) (c := c) (P := P) (ps := tab) (closure_ok fr) I.ok.glob (I.mod.glob.keeps I.bk) hcode (TB.code.keeps I.bk) hP' ht hcv TB.gP (TB.bm.keeps I.bk) fun c' ctv h1 tk hx hge hlt hrec htb => ?_
    obtain ⟨c2, oc, ws, t, e2, hoc, hd, hv⟩ := hrec
    cases e2
    have nC : H c' = none := I.hok.fresh hge
    have sz : s.heap.objs.size ≤ h1.objs.size := Nat.le_trans hge (Nat.le_of_lt hlt)
    have I1 := inv_table (q := X.env.qual ++ "<lambda>") (t' := tk) (more := #[rawInt pos.line, rawInt pos.col, .ref c']) (h' := h1) I hP hx htb hge ⟨oc, ws, t, hoc, hd, hv⟩
    have ex : ExtN H (upd (upd H P (.tbl (tab ++ #[rawInt pos.line, rawInt pos.col, .ref c']))) c' (CodeO c' (X.env.qual ++ "<lambda>"))) := fun b o e n => by
      rw [upd_ne (ne_of_none e nC)]
      rw [upd_ne fun z => n tab (Option.some.inj (e.symm.trans (by rw [z]; exact hP)))]
      exact e
    have nP : P ≠ c' := ne_of_none hP nC
    have tabs : Tabs T (upd (upd H P (.tbl (tab ++ #[rawInt pos.line, rawInt pos.col, .ref c']))) c' (CodeO c' (X.env.qual ++ "<lambda>"))) := fun p hp => by
      by_cases hb : p.1 = P
      · have eL : (tab ++ #[rawInt pos.line, rawInt pos.col, .ref c']).toList = tab.toList ++ [rawInt pos.line, rawInt pos.col, .ref c'] := by simp
        rw [hu p hp hb, hb]
        refine ⟨_, by rw [upd_ne nP, upd_same], by rw [eL]; exact PySem.TriplesOk_snoc _ _ _ _ ht, fun p' cv' hcv' => ?_⟩
        rw [eL] at hcv'
        rcases among_app _ ht hcv' with z | z
        · obtain ⟨c0, e1, e2⟩ := ha p' cv' z
          exact ⟨c0, e1, ex _ _ e2 codeO_ne⟩
        · exact ⟨c', z, upd_same⟩
      · obtain ⟨t2, a1, a2, a3⟩ := hT p hp
        refine ⟨t2, by rw [upd_ne (ne_of_none a1 nC), upd_ne hb]; exact a1, a2, fun p' cv' hcv' => ?_⟩
        obtain ⟨c0, e1, e2⟩ := a3 p' cv' hcv'
        exact ⟨c0, e1, ex _ _ e2 codeO_ne⟩
    have nf : (upd (upd H P (.tbl (tab ++ #[rawInt pos.line, rawInt pos.col, .ref c']))) c' (CodeO c' (X.env.qual ++ "<lambda>"))) h1.objs.size = none := by
      rw [upd_ne (Nat.ne_of_gt hlt), upd_ne (Nat.ne_of_gt (Nat.lt_of_lt_of_le (Heap.lt_size hP') sz))]
      exact I.hok.fresh sz
    refine ⟨.ref h1.objs.size, _, laid_clo (s := { s with heap := h1, toks := tk }) I1 (fun b o e => Heap.get?_push_of_some _ e) (Nat.le_refl _) (Heap.get?_push_size _ rfl), rfl, h h1.objs.size c' _ ex tabs nf upd_same⟩
end
end Un

set_option maxRecDepth 100000
set_option maxHeartbeats 4000000
namespace Un
open PySem PySem.Spec PyProof.Rows L2 LamX
/-! ### the cells of a def that runs: what they hold; told to a callee -/
structure OwnAt (base : Heap) (fs : List Addr) (cs : List (PySem.Str × Addr)) (N : List PySem.Str) (σ : L2.St) (H : Hp) (h : Heap) : Prop where
  free : ∀ b, InC cs b → H b = none
  nb : ∀ b, InC cs b → base.get? b = none
  nf : ∀ b, InC cs b → b ∉ fs
  cell : ∀ b, InC cs b → ∃ ob u, h.get? b = some ob ∧ ob.data = .cell u
  val : ∀ (i : Nat) (x : PySem.Str) (v : V) (c : Addr), N[i]? = some x → σ[i]? = some (some v) → cs.lookup x = some c → ∃ ob u, h.get? c = some ob ∧ ob.data = .cell (some u) ∧ RelV v u
structure TkH (cs : List (PySem.Str × Addr)) (N : List PySem.Str) (σ : L2.St) (H H2 : Hp) : Prop where
  out : ∀ b, ¬ InC cs b → H2 b = H b
  free : ∀ b, InC cs b → H b = none
  cells : CellsAt cs H2
  val : ∀ (i : Nat) (x : PySem.Str) (v : V) (c : Addr), N[i]? = some x → σ[i]? = some (some v) → cs.lookup x = some c → ∃ ob u, H2 c = some (CellX c ob) ∧ ob.data = .cell (some u) ∧ RelV v u
theorem TkH.same {cs : List (PySem.Str × Addr)} {N : List PySem.Str} {σ : L2.St} {H H2 : Hp} (t : TkH cs N σ H H2) : Same H H2 := fun b o e => by
  rw [t.out b fun z => by rw [t.free b z] at e; cases e]
  exact e
open Classical in
/-- the cells' addresses told too -/
noncomputable def told (cs : List (PySem.Str × Addr)) (h : Heap) (H : Hp) : Hp := fun b => if InC cs b then (h.get? b).map (CellX b) else H b
section
variable {P : Program} {w : World} {K : PySem.W.Frag} {mg : PySem.Str → Option Value} {base : Heap} {A : Around} {outer : List Env} {s : Shared} {H : Hp} {cs : List (PySem.Str × Addr)} {N : List PySem.Str} {σ : L2.St}
theorem told_in {b : Addr} {ob : Obj} {h : Heap} (z : InC cs b) (e : h.get? b = some ob) : told cs h H b = some (CellX b ob) := by
  unfold told
  rw [if_pos z, e] <;> rfl
theorem told_out {b : Addr} {h : Heap} (z : ¬ InC cs b) : told cs h H b = H b := if_neg z
theorem tk_told (o : OwnAt base (frs outer) cs N σ H s.heap) (e0 : Env0 P w K mg base A outer s H) : TkH cs N σ H (told cs s.heap H) ∧ Env0 P w K mg base A outer s (told cs s.heap H) := by
  have out : ∀ {b u}, H b = some u → ¬ InC cs b := fun {b u} e z => by
    rw [o.free b z] at e
    cases e
  have cells : CellsAt cs (told cs s.heap H) := fun b z => by
    obtain ⟨ob, u, e, d⟩ := o.cell b z
    exact ⟨ob, u, told_in z e, d⟩
  refine ⟨⟨fun b z => told_out z, o.free, cells, fun i x v c e1 e2 e3 => ?_⟩, ⟨e0.frames, e0.mod, fun b u e => ⟨(e0.bs b u e).1, ?_⟩, e0.bsz, e0.funs, fun b hb => ?_, fun b u e => ?_, e0.bare⟩⟩
  · obtain ⟨ob, u, h1, h2, h3⟩ := o.val i x v c e1 e2 e3
    exact ⟨ob, u, told_in ⟨x, e3⟩ h1, h2, h3⟩
  · rw [told_out fun z => by rw [o.nb b z] at e; cases e]
    exact (e0.bs b u e).2
  · rw [told_out fun z => o.nf b z hb]
    exact e0.frf b hb
  · by_cases z : InC cs b
    · obtain ⟨ob, v, h1, d⟩ := o.cell b z
      rw [told_in z h1] at e
      cases e
      exact ⟨h1, ⟨ob, h1⟩, fun h1 h2 p st => st _ p⟩
    · rw [told_out z] at e
      exact (e0.hok b u e).stay (fun _ _ _ q => q) (fun c q => by rw [told_out (out q)]; exact q) fun c xs q => by rw [told_out (out q)]; exact q
/-- behind the call the cells are untold again -/
theorem tk_back {Q : VK} {H2 : Hp} {u : Value} {s' : Shared} (t : TkH cs N σ H H2) (hok : HOk P w H2 s.heap) (c : CE outer P w H2 s (fun v H3 => (∀ b, InC cs b → H3 b = H2 b) ∧ Q v (unc cs H3)) u s') : CE outer P w H s Q u s' := by
  obtain ⟨v, H3, os, bare, un, hok', rv, keep, q⟩ := c
  have c3 : CellsAt cs H3 := fun b z => by
    rw [keep b z]
    exact t.cells b z
  have out : ∀ {b u}, H b = some u → ¬ InC cs b := fun {b u} e z => by
    rw [t.free b z] at e
    cases e
  have cellK : ∀ b o, InC cs b → s.heap.get? b = some o → s'.heap.get? b = some o := fun b o z e => by
    obtain ⟨ob, u', e1, e2, _⟩ := t.cells.real hok z
    obtain ⟨e3, _⟩ := hok' b _ (by rw [keep b z]; exact e1)
    rw [e2] at e
    cases e
    exact e3
  refine ⟨v, unc cs H3, os, bare, ⟨fun b o e n hb hx => ?_, fun b o e n hb hx => ?_, fun b o e n hx => ?_, un.there, fun b xs e => ?_, fun b o w e => ?_, fun b ps e => ?_⟩, hok_unc c3 hok', rv, q⟩
  · by_cases z : InC cs b
    · exact cellK b o z e
    · exact un.keep b o e (by rw [t.out b z]; exact n) hb hx
  · by_cases z : InC cs b
    · exact ⟨o.slots, cellK b o z e⟩
    · exact un.slot b o e (by rw [t.out b z]; exact n) hb hx
  · by_cases z : InC cs b
    · exact unc_in z
    · rw [unc_out z]
      exact un.free b o e (by rw [t.out b z]; exact n) hx
  · rw [unc_out (out e)]
    exact un.tups b xs (by rw [t.out b (out e)]; exact e)
  · rw [unc_out (out e)]
    exact un.frzs b o w (by rw [t.out b (out e)]; exact e)
  · rw [unc_out (out e)]
    exact un.tbls b ps (by rw [t.out b (out e)]; exact e)
end
/-- of a def's own context -/
theorem own_def {X : Cx} {pins : List (Addr × Obj)} {σ : L2.St} {H : Hp} {s : Shared} (hst : X.stack = X.env :: X.outer) (hf : X.env.frame = some X.env.locals) (hfn : ∀ x, X.fn x = true) (hv : ∀ x c, X.env.cells.lookup x = some c → X.env.scope.names.lookup x = some .cell) (I : Inv X pins σ H s) :
    OwnAt X.base (frs X.stack) X.env.cells X.N σ H s.heap := by
  refine ⟨fun b ⟨x, e⟩ => I.freeC x b e, fun b ⟨x, e⟩ => ?_, fun b ⟨x, e⟩ hb => ?_, fun b ⟨x, e⟩ => ?_, fun i x v c e1 e2 e3 => ?_⟩
  · refine Heap.get?_none_of_le (Nat.le_trans I.ok.bsz (I.ok.cab x b (hfn x) e))
  · rcases List.mem_cons.mp (I.stkSub b hb) with z | z
    · exact I.cne x b e z
    · obtain ⟨_, o, ho, _⟩ := I.ok.funs.mem z
      exact absurd (Nat.lt_of_lt_of_le (Heap.lt_size ho) (I.ok.cab x b (hfn x) e)) (Nat.lt_irrefl _)
  · obtain ⟨v, o, ho, hd⟩ := I.cell x b e
    exact ⟨o, v, ho, hd⟩
  · have k := hv x c e3
    obtain ⟨m, _, hl⟩ := I.loc
    obtain ⟨u, r, q⟩ := hl i x v e1 e2 (.inr (.inl k))
    rcases q with ⟨k2, _⟩ | ⟨_, c2, e4, o, ho, hd⟩
    · have k2 : X.env.scope.names.lookup x = some .local := k2
      rw [k] at k2
      cases k2
    · rw [e3] at e4
      cases e4
      exact ⟨o, u, ho, hd, r⟩
/-! ### a def called by its name, our cells told -/
def tCallW (cs : List (PySem.Str × Addr)) (N : List PySem.Str) (g : L2.St → L2.St) (sp : Sp) (t : TA) : TE := fun σ H Q => t σ H fun vs H1 => ∀ H2, TkH cs N (g σ) H1 H2 → sp vs H2 (fun v H3 => (∀ b, InC cs b → H3 b = H2 b) ∧ Q v (unc cs H3)) E0
theorem pe_cW {X : Cx} {j k : Nat} {x : PySem.Str} {sp : Sp} {p pos : Pos} {e : Expr} {es : List Expr} {t : TA} {cs : List (PySem.Str × Addr)} {N : List PySem.Str} {g : L2.St → L2.St}
    (ow : ∀ (pins : List (Addr × Obj)) (σ : L2.St) (H : Hp) (s : Shared), Inv X pins σ H s → OwnAt X.base (frs X.stack) cs N (g σ) H s.heap) (hgd : X.A.guards = some []) (c : CalG X.prog X.w X.K X.mg X.base k x sp) (hr : Room j X.A) (hk : k ≤ j) (hg : Gl X x) (ha : PA X (e :: es) t)
    (hdb : (x == ("__debug__" : PySem.Str)) = false := by decide) (he : starEach (e :: es) X.env = (false, eval e X.env) :: starEach es X.env := by rfl) (hpl : (backTo pos (starEach es X.env)).any (·.1) = false := by rfl) :
    PE X (.Call (.Name x p) (e :: es) [] pos) (tCallW cs N g sp t) := by
  obtain ⟨f, fd, ps, ds, dvs, sp0, F, hm, kp, hb, hv, hsp⟩ := c.ex
  refine ⟨fun pins s σ H Q I h => wpAny_Call_Name_kw (ld_glob I hg hm ?_ hdb)⟩
  refine PySem.W.callWith_K (h₀ := X.base) I.ok.mod.kin kp (thn (ha.run pos pins s σ H _ I h) ?_) he hpl
  rintro us s1 ⟨vs, H1, I1, r, q⟩
  refine ⟨I1.kIn, ?_⟩
  obtain ⟨tk, e0⟩ := tk_told (ow _ _ _ _ I1) I1.env0
  have q0 := hsp _ _ _ (q _ tk)
  have r0 := vals_app r hv
  have hb1 := hb s1 us I1.kIn (by rw [← r0.length]; exact F.len _ _ _ _ q0)
  refine wpAny_call (codeAny_mono (F.run X.A X.stack s1 _ ⟨us, []⟩ (us ++ ds) (vs ++ dvs) _ hgd (hr.mono hk) e0 hb1 r0 q0) ?_)
  intro rr s' hq
  cases rr with
  | error z => exact hq.elim
  | ok fl =>
    cases fl with
    | ret u => exact I1.after (tk_back tk e0.hok hq)
    | next => exact hq.elim
    | brk => exact hq.elim
    | cont => exact hq.elim
end Un

set_option maxRecDepth 100000
set_option maxHeartbeats 4000000
namespace Un
open PySem PySem.Spec PyProof.Rows L2 LamX
/-! ### a comprehension whose tests and items may call what holds our cells -/
section
variable {X : Cx}
/-- what a block of X knows of X's cells -/
def BlkOwn (X : Cx) (σ0 : L2.St) (Y : Cx) : Prop := ∀ (pins : List (Addr × Obj)) (σ : L2.St) (H : Hp) (s : Shared), Inv Y pins σ H s → OwnAt X.base (frs X.stack) X.env.cells X.N σ0 H s.heap
theorem own_blk {pins : List (Addr × Obj)} {σ0 : L2.St} {H0 : Hp} {s0 : Shared} {sc : Scope} {ce : Env} {fp : List Addr} (o : OwnAt X.base (frs X.stack) X.env.cells X.N σ0 H0 s0.heap) (hfp : ∀ b ∈ fp, FpOk X pins H0 b) : BlkOwn X σ0 (X.blk s0 H0 sc ce fp) := by
  intro pins σ H s I
  have nfp : ∀ b, InC X.env.cells b → b ∉ fp := fun b ⟨x, e⟩ hb => (hfp b hb).2.2.2.2.1 x b e rfl
  have stay : ∀ b ob, InC X.env.cells b → s0.heap.get? b = some ob → s.heap.get? b = some ob := fun b ob z e => I.base.keep b ob e (o.free b z) (o.nf b z) (nfp b z)
  refine ⟨fun b z => ?_, o.nb, o.nf, fun b z => ?_, fun i x v c e1 e2 e3 => ?_⟩
  · obtain ⟨ob, u, e, _⟩ := o.cell b z
    exact I.base.free b ob e (o.free b z) (nfp b z)
  · obtain ⟨ob, u, e, d⟩ := o.cell b z
    exact ⟨ob, u, stay b ob z e, d⟩
  · obtain ⟨ob, u, e, d, r⟩ := o.val i x v c e1 e2 e3
    exact ⟨ob, u, stay c ob ⟨x, e3⟩ e, d, r⟩
theorem pe_lcW {el tg it0 : Expr} {ifs : List Expr} {sc : Scope} {own : List (PySem.Str × Nat)} {pos : Pos} {wi : TI} {g : TG} {tt : L2.St → TT} {te : L2.St → TE} (hc : X.calm = true) (hN : X.N.Nodup)
    (ow : ∀ (pins : List (Addr × Obj)) (σ : L2.St) (H : Hp) (s : Shared), Inv X pins σ H s → OwnAt X.base (frs X.stack) X.env.cells X.N σ H s.heap) (hi : PI X tg it0 wi) (ok : BlkOk X.N X.env.scope sc own)
    (hg : ∀ (s : Shared) (H : Hp) (C : Addr) (cl : List (PySem.Str × Addr)) (fp : List Addr), PG (X.blk s H sc (compEnvC sc cl C X.env) fp) tg g)
    (ht : ∀ (σ0 : L2.St) (s : Shared) (H : Hp) (C : Addr) (cl : List (PySem.Str × Addr)) (fp : List Addr), BlkOwn X σ0 (X.blk s H sc (compEnvC sc cl C X.env) fp) → PTs (X.blk s H sc (compEnvC sc cl C X.env) fp) ifs (tt σ0))
    (he : ∀ (σ0 : L2.St) (s : Shared) (H : Hp) (C : Addr) (cl : List (PySem.Str × Addr)) (fp : List Addr), BlkOwn X σ0 (X.blk s H sc (compEnvC sc cl C X.env) fp) → PE (X.blk s H sc (compEnvC sc cl C X.env) fp) el (te σ0))
    (hs : ∀ x, foldedSetIterable it0 X.env x = pure x := by intro _; rfl) : PE X (.ListComp el [⟨tg, it0, ifs, 0⟩] sc pos) (fun σ H Q => tLc wi g (tt σ) (te σ) (own.map (·.2)) σ H Q) := by
  refine ⟨fun pins s σ H Q I h => ?_⟩
  rw [eval_ListComp]
  have caught : ∀ y ∈ sc.names, y.2 = .free → ∃ c, X.env.cells.lookup y.1 = some c := by
    intro y hy e
    have := ok.free y hy e
    exact I.ok.has _ (this.imp id id)
  refine wpAny_comprehension_free (use := none) rfl hs (closure_ok caught) ok.kind (by intro y hy e; rw [ok.uniq y hy, e]) ?_
  refine thn (hi.run pins s σ H _ I h) ?_
  intro _ _ hx
  refine thn hx ?_
  rintro _ s1 ⟨it, fp, tn, J, H1, rfl, I1, T, st1, f1, q⟩
  refine wpAny_newObj_type (newEnv_comp ?_) (Nat.zero_le _)
  obtain ⟨W, ⟨m0, w0⟩, turn⟩ := q _ (I1.hok.fresh (Nat.le_refl _))
  -- the list that is made
  have push : ∀ b o, s1.heap.get? b = some o → (s1.heap.push { cls := .type "list", data := .seq ([] : List Value).toArray }).get? b = some o := fun b o e => Heap.get?_push_of_some _ e
  have I2 := I1.laid (a := s1.heap.objs.size) (o := .lst []) (t' := s1.toks) push (Nat.le_refl _) ⟨Nat.zero_le _, [], 0, .nil, Heap.get?_push_size _ rfl⟩
  obtain ⟨D, eD⟩ : ∃ D, D = s1.heap.objs.size := ⟨_, rfl⟩
  have low : ∀ b ∈ fp, b < D := fun b hb => by
    obtain ⟨o, e, _⟩ := T.obj _ _ st1 b hb
    rw [eD]
    exact Heap.lt_size e
  rw [← eD] at I2 w0 turn ⊢
  obtain ⟨s2, es⟩ : ∃ s2 : Shared, s2 = { s1 with heap := s1.heap.push { cls := .type "list", data := .seq ([] : List Value).toArray } } := ⟨_, rfl⟩
  have hp2 : s2.heap = s1.heap.push { cls := .type "list", data := .seq ([] : List Value).toArray } := by rw [es]
  have sz2 : s2.heap.objs.size = D + 1 := by rw [hp2, Heap.size_push, eD]
  rw [← es] at I2
  rw [← es]
  have f2 : ∀ b ∈ fp, FpOk X pins (upd H1 D (.lst [])) b ∧ b < s2.heap.objs.size := by
    intro b hb
    have := low b hb
    exact ⟨⟨by rw [upd_ne (Nat.ne_of_lt this)]; exact (f1 b hb).1, (f1 b hb).2⟩, by rw [sz2]; exact Nat.lt_succ_of_lt this⟩
  have st2 : tn 0 s2.heap := T.keep _ _ _ st1 (by intro b _ o e; rw [hp2]; exact push b o e)
  obtain ⟨H2, eH⟩ : ∃ H2, H2 = upd H1 D (.lst []) := ⟨_, rfl⟩
  rw [← eH] at I2 f2 w0
  have I3 := block_start (scope := sc) I2 ok hN f2
  have fpY : ∀ b ∈ fp, FpOk X pins H2 b := fun b hb => (f2 b hb).1
  have bo := own_blk (sc := sc) (ce := compEnvC sc (cellsFrom (s2.heap.objs.size + 1) sc.names (cloFrom X.env.cells sc.names [])) s2.heap.objs.size X.env) (ow _ _ _ _ I2) fpY
  have pg := hg s2 H2 s2.heap.objs.size (cellsFrom (s2.heap.objs.size + 1) sc.names (cloFrom X.env.cells sc.names [])) fp
  have pt := ht σ s2 H2 s2.heap.objs.size _ fp bo
  have pe := he σ s2 H2 s2.heap.objs.size _ fp bo
  have st3 : tn 0 (pushCells (s2.heap.push { cls := .type "dict", data := .dict #[] }) sc.names) := T.keep _ _ _ st2 (by intro b _ o e; exact pushCells_keeps _ _ _ _ (Heap.get?_push_of_some _ e))
  obtain ⟨ce, ec⟩ : ∃ ce, ce = compEnvC sc (cellsFrom (s2.heap.objs.size + 1) sc.names (cloFrom X.env.cells sc.names [])) s2.heap.objs.size X.env := ⟨_, rfl⟩
  have cL : ce.locals = s2.heap.objs.size := by rw [ec] <;> rfl
  show codeAny _ _ (.compStart (.ListComp el [⟨tg, it0, ifs, 0⟩] sc pos) 0 (.ref it) (.ref D) (compEnvC sc (cellsFrom (s2.heap.objs.size + 1) sc.names (cloFrom X.env.cells sc.names [])) s2.heap.objs.size X.env)) (compPost _ _ _ none _ (.ref D) s2.heap.objs.size) _
  rw [← ec] at I3 pg pt pe ⊢
  obtain ⟨s3, es3⟩ : ∃ s3 : Shared, s3 = { s2 with heap := pushCells (s2.heap.push { cls := .type "dict", data := .dict #[] }) sc.names } := ⟨_, rfl⟩
  rw [← es3] at I3 ⊢
  have st3 : tn 0 s3.heap := by rw [es3]; exact st3
  have nfp2 : ∀ b ∈ fp, H2 b = none := fun b hb => (fpY b hb).1
  have inY : ∀ {σ' : L2.St} {H' : Hp} {s' : Shared}, Inv (X.blk s2 H2 sc ce fp) [] σ' H' s' → (∀ b ∈ fp, H' b = none) → ∀ b ∈ fp, FpOk (X.blk s2 H2 sc ce fp) [] H' b := by
    intro σ' H' s' I' hn b hb
    exact ⟨hn b hb, (I'.ok.exf b hb).1, I'.ok.exfs b hb, .inl hb, (I'.ok.exf b hb).2, fun p hp => nomatch hp⟩
  have lp : codeAny (model X.prog X.w) X.A (.compLoop (.ListComp el [⟨tg, it0, ifs, 0⟩] sc pos) 0 (.ref it) (.ref D) ce) (compPost (model X.prog X.w) X.A X.xe none (EP X pins σ Q) (.ref D) s2.heap.objs.size) s3 := by
    refine compLoop_any (fun m s' => ∃ j H', Inv (X.blk s2 H2 sc ce fp) [] (wipe σ (own.map (·.2))) H' s' ∧ tn j s'.heap ∧ (∀ b ∈ fp, H' b = none) ∧ W j m H') ?_ m0 ⟨0, H2, I3, st3, nfp2, w0⟩
    intro m s4 ⟨j, H4, I4, st4, n4, w4⟩
    cases turn j m H4 w4 with
    | inl z =>
      -- it ends
      refine thnF (T.done (X.blk s2 H2 sc ce fp) rfl rfl rfl hc j [] s4 _ H4 (fun _ _ => False) I4 (inY I4 n4) st4 z.1) ?_
      rintro _ s5 ⟨rfl, I5⟩
      have I6 : Inv X pins σ H4 s5 := I2.call' (ch := fp) I5.os I5.base I5.hok I5.bare (by
        intro b hb
        have := (fpY b hb).2
        exact ⟨this.2.2.1, this.1, this.2.2.2.1, this.2.2.2.2⟩)
      have nC : H4 s2.heap.objs.size = none := by
        rw [← cL]
        exact I5.free
      obtain ⟨mm, hn, _⟩ := I5.loc
      refine ⟨mm, by rw [← cL]; exact hn, fun h2 sb => ?_⟩
      have ff := I2.fpOk (b := s2.heap.objs.size) (H' := H4) (Nat.le_refl _) nC
      exact ⟨.ref D, H4, I6.turned (t' := s5.toks) (by intro b o hb e; exact (sb.2 b hb).trans e) ff.1 ff.2.1 ff.2.2.2.1 ff.2.2.2.2.1 ff.2.2.2.2.2, rfl, z.2⟩
    | inr z =>
      obtain ⟨go, Nx, hNx, step⟩ := z
      refine thnF (T.item (X.blk s2 H2 sc ce fp) rfl rfl rfl hc j [] s4 _ H4 (fun _ _ => False) I4 (inY I4 n4) st4 go) ?_
      rintro _ s5 ⟨u, rfl, h5⟩
      refine thnF h5 ?_
      rintro _ s6 ⟨x, H6, I6, r6, y6, st6, n6⟩
      have I6p := I6.pinned (inY I6 n6) (T.obj _ _ st6)
      refine thnF (pg.run _ s6 _ H6 x u _ I6p r6 (step x H6 y6)) ?_
      rintro _ s7 ⟨σ7, H7, I7, hw, q7⟩
      refine thnF (pt.run _ s7 σ7 H7 _ I7 q7) ?_
      rintro b s8 ⟨H8, I8, q8⟩
      -- to the next turn
      have onward : ∀ {s' : Shared} {H' : Hp}, Inv (X.blk s2 H2 sc ce fp) ([] ++ pinsAt fp s6.heap) σ7 H' s' → Nx H' → ∃ m', m' < m ∧ ∃ j H', Inv (X.blk s2 H2 sc ce fp) [] (wipe σ (own.map (·.2))) H' s' ∧ tn j s'.heap ∧ (∀ b ∈ fp, H' b = none) ∧ W j m' H' := by
        intro s' H' I' nx
        obtain ⟨m', lt, w'⟩ := hNx H' nx
        have held : ∀ b ∈ fp, ∀ o, s6.heap.get? b = some o → s'.heap.get? b = some o ∧ H' b = none := by
          intro b hb o e
          have := I'.pin (b, o) (List.mem_append_right _ (List.mem_append_right _ (mem_pinsAt hb e)))
          exact ⟨this.1, this.2.1⟩
        have len : (wipe σ (own.map (·.2))).length = σ7.length := by rw [← hw, wipe_length]
        refine ⟨m', lt, j + 1, H', (I'.unpinned (pins := [])).weak len ?_, T.keep _ _ _ st6 (by intro b hb o e; exact (held b hb o e).1), ?_, w'⟩
        · intro a v e
          rw [← hw] at e
          exact (wipe_some e).1
        · intro b hb
          obtain ⟨o, e, _⟩ := T.obj _ _ st6 b hb
          exact (held b hb o e).2
      cases b with
      | true =>
        rw [if_pos rfl] at q8 ⊢
        refine thnF (pe.run _ s8 σ7 H8 _ I8 q8) ?_
        rintro y s9 ⟨yv, H9, I9, r9, acc, hD, hz, nx⟩
        exact app_ok (X := X.blk s2 H2 sc ce fp) I9 hD hz r9 fun s10 I10 => onward I10 nx
      | false =>
        rw [if_neg Bool.false_ne_true] at q8 ⊢
        exact onward I8 q8
  exact codeAny_compStart_list lp (T.self X.A 0 _ _ _ st3 lp)
end
end Un

set_option maxRecDepth 100000
set_option maxHeartbeats 4000000
namespace Un
open PySem PySem.Spec PyProof.Rows L2
/-- tClo, by the program's parts alone -/
def tCloP (P : Program) (w : World) (K : PySem.W.Frag) (mg : PySem.Str → Option Value) (base : Heap) (k i : Nat) (W : WX) : TE := fun σ H Q => ∃ (f : Addr) (D : LamD) (vs : List V) (sp : Sp), σ[i]? = some (some (.ref f)) ∧ FnL P w K mg base k D sp ∧ CloIs H f D vs ∧
  sp vs H Q fun cls d H' => W cls d σ H'
theorem pe_cloP {P : Program} {w : World} {K : PySem.W.Frag} {mg : PySem.Str → Option Value} {base : Heap} {Z : Cx} {k i : Nat} {W : WX} {a : PySem.Str} {p1 p2 : Pos} (e1 : Z.prog = P) (e2 : Z.w = w) (e3 : Z.K = K) (e4 : Z.mg = mg) (e5 : Z.base = base) (tk : Takes Z W) (hr : Room k Z.A)
    (hN : Z.N[i]? = some a) (hv : Vis Z.env.scope a) (hd : (a == ("__debug__" : PySem.Str)) = false := by decide) (hcd : (a == ("__classdict__" : PySem.Str)) = false := by decide) : PE Z (.Call (.Name a p1) [] [] p2) (tCloP P w K mg base k i W) := by
  subst e1 e2 e3 e4 e5
  exact pe_clo tk hr hN hv hd hcd
theorem kEnds_go {i : Nat} {D : Ends} {a : Addr} {cls : Value} {d : Option Addr} {σ : L2.St} {H : Hp} (h : D.nx (σ.set i none) (upd H a (exK a cls d))) : (kEnds i D a cls d).nx σ H := h
theorem gName_go {i : Nat} {x : V} {σ : L2.St} {H : Hp} {nx : L2.St → Hp → Prop} (h : nx (σ.set i (some x)) H) : gName i x σ H nx := h
end Un

set_option maxRecDepth 100000
set_option maxHeartbeats 4000000
namespace Un
open PySem PySem.Spec PyProof.Rows L2
/-! ### data on the heap without the cells -/
mutual
theorem Rp.keep {Z : Addr → Prop} {G G' : Hp} (k1 : ∀ a xs, G a = some (.lst xs) → G' a = some (.lst xs)) (k2 : ∀ a xs, G a = some (.tup xs) → G' a = some (.tup xs)) (k3 : ∀ a xs, G a = some (.dK xs) → G' a = some (.dK xs)) : ∀ {v : V} {d : PyData}, Rp Z G v d → Rp Z G' v d
  | _, _, .non => .non
  | _, _, .bl b => .bl b
  | _, _, .int i => .int i
  | _, _, .str x => .str x
  | _, _, .lst h z r => .lst (k1 _ _ h) z (RpA.keep k1 k2 k3 r)
  | _, _, .tup h r => .tup (k2 _ _ h) (RpA.keep k1 k2 k3 r)
  | _, _, .dic h z r => .dic (k3 _ _ h) z (RpA.keep k1 k2 k3 r)
theorem RpA.keep {Z : Addr → Prop} {G G' : Hp} (k1 : ∀ a xs, G a = some (.lst xs) → G' a = some (.lst xs)) (k2 : ∀ a xs, G a = some (.tup xs) → G' a = some (.tup xs)) (k3 : ∀ a xs, G a = some (.dK xs) → G' a = some (.dK xs)) : ∀ {vs : List V} {ds : List PyData}, RpA Z G vs ds → RpA Z G' vs ds
  | _, _, .nil => .nil
  | _, _, .cons r t => .cons (Rp.keep k1 k2 k3 r) (RpA.keep k1 k2 k3 t)
end
theorem Rp.ext {Z : Addr → Prop} {G G' : Hp} (s : LamX.ExtN G G') {v : V} {d : PyData} (h : Rp Z G v d) : Rp Z G' v d := h.keep (fun _ _ e => s _ _ e fun _ z => nomatch z) (fun _ _ e => s _ _ e fun _ z => nomatch z) fun _ _ e => s _ _ e fun _ z => nomatch z
theorem CellsAt.dK {cl : List (PySem.Str × Addr)} {H : Hp} (hc : CellsAt cl H) {b : Addr} {xs : List (Key × V)} (e : H b = some (.dK xs)) : ¬ InC cl b := fun z => by
  obtain ⟨ob, u', e', _⟩ := hc b z
  rw [e] at e'
  unfold CellX at e'
  cases e'
theorem rp_unc {Z : Addr → Prop} {cl : List (PySem.Str × Addr)} {H : Hp} (hc : CellsAt cl H) {v : V} {d : PyData} (h : Rp Z H v d) : Rp Z (unc cl H) v d :=
  h.keep (fun _ _ e => by rw [unc_out (hc.lst e)]; exact e) (fun _ _ e => by rw [unc_out (hc.tup e)]; exact e) fun _ _ e => by rw [unc_out (hc.dK e)]; exact e
theorem unc_sub {cl : List (PySem.Str × Addr)} {H : Hp} : Same (unc cl H) H := fun b o e => by
  by_cases z : InC cl b
  · rw [unc_in z] at e
    cases e
  · rw [unc_out z] at e
    exact e
/-- the wish behind a lambda -/
abbrev XKc (cl : List (PySem.Str × Addr)) (H : Hp) (E : XK) : XK := fun cls d H' => (∀ b, InC cl b → H' b = none) → E cls d (rec' cl H H')
theorem same_rec {cl : List (PySem.Str × Addr)} {H H' : Hp} (s : Same (unc cl H) H') : Same H (rec' cl H H') := fun b o e => by
  by_cases z : InC cl b
  · rw [rec_in z]
    exact e
  · rw [rec_out z]
    exact s _ _ (by rw [unc_out z]; exact e)
theorem refE_unc {Ea : ErK → Addr} {kd : ErK} {pd : PyData} {cl : List (PySem.Str × Addr)} {H : Hp} {E : XK} (x : RefE Ea kd pd H E) : RefE Ea kd pd (unc cl H) (XKc cl H E) := fun v H' s r d H2 s2 nd hd hn => by
  refine x v H (Same.refl H) (r.same unc_sub) d (rec' cl H H2) (same_rec (s.trans s2)) ?_ ?_
  · by_cases z : InC cl d
    · rw [hn d z] at hd
      cases hd
    · cases e : H d with
      | none => rfl
      | some o =>
        have := s d o (by rw [unc_out z]; exact e)
        rw [nd] at this
        cases this
  · rw [rec_out fun z => by rw [hn d z] at hd; cases hd]
    exact hd
/-! ### a lambda's text out of a def's -/
def bodyAt (st : Stmt) (i : Nat) : Stmt := (defBody st).getD i (.Pass ⟨0, 0, 0, 0⟩)
/-- x = [lambda: ..] | x.append(lambda: ..) -/
def lamIn : Stmt → Expr
  | .Assign _ (.List (e :: _) _) _ => e
  | .Expr (.Call _ (e :: _) _ _) _ => e
  | _ => .Constant .none 0 ⟨0, 0, 0, 0⟩
def lamD (q : PySem.Str) (N : List PySem.Str) (st : Stmt) : Expr → LamD
  | .Lambda ps b sc _ => ⟨q, ps, b, sc, N⟩
  | e => ⟨q, defArgs st, e, defScope st, N⟩
end Un

set_option maxRecDepth 100000
set_option maxHeartbeats 4000000
namespace Un
open PySem PySem.Spec PyProof.Rows L2 LamX
example {q : PySem.Str} {sc : Scope} {n f : Addr} {c : Value} : (envOfC q sc n f c).cells = cellsFrom (n + 1) sc.names [] := rfl
def Inj (cl : List (PySem.Str × Addr)) : Prop := ∀ x y c, cl.lookup x = some c → cl.lookup y = some c → x = y
theorem look_cons {x y : PySem.Str} {a : Addr} {l : List (PySem.Str × Addr)} : ((y, a) :: l).lookup x = if x = y then some a else l.lookup x := by
  by_cases h : x = y
  · subst h
    simp [List.lookup]
  · have e : (x == y) = false := by simpa using h
    rw [if_neg h]
    simp [List.lookup, e]
theorem cells_inj : ∀ (names : List (PySem.Str × NameKind)) (n : Nat) (acc : List (PySem.Str × Addr)), (∀ x c, acc.lookup x = some c → c < n) → Inj acc → Inj (cellsFrom n names acc)
  | [], _, _, _, h => h
  | (m, k) :: r, n, acc, hb, h => by
    unfold cellsFrom
    split
    · refine cells_inj r (n + 1) ((m, n) :: acc) (fun x c e => ?_) fun x y c e1 e2 => ?_
      · rw [look_cons] at e
        split at e
        · cases e
          exact Nat.lt_succ_self _
        · exact Nat.lt_succ_of_lt (hb x c e)
      · rw [look_cons] at e1 e2
        split at e1
        · rename_i h1
          cases e1
          split at e2
          · rename_i h2
            rw [h1, h2]
          · exact absurd (hb _ _ e2) (Nat.lt_irrefl _)
        · split at e2
          · cases e2
            exact absurd (hb _ _ e1) (Nat.lt_irrefl _)
          · exact h x y c e1 e2
    · exact cells_inj r n acc hb h
theorem cells_inj0 (names : List (PySem.Str × NameKind)) (n : Nat) : Inj (cellsFrom n names []) := cells_inj names n [] (fun _ _ z => by simp at z) fun _ _ _ z => by simp at z
theorem cells_has {names : List (PySem.Str × NameKind)} {n : Nat} {x : PySem.Str} (h : names.lookup x = some .cell) : ∃ c, (cellsFrom n names []).lookup x = some c :=
  Option.isSome_iff_exists.mp (PySem.W.cellsFrom_some names n [] (.inl h))
theorem look_has {l : List (PySem.Str × Addr)} {x : PySem.Str} {c : Addr} (h : (x, c) ∈ l) : ∃ c', l.lookup x = some c' := by
  induction l with
  | nil => cases h
  | cons p l ih =>
    obtain ⟨y, a⟩ := p
    rw [look_cons]
    split
    · exact ⟨_, rfl⟩
    · rename_i hn
      rcases List.mem_cons.mp h with e | e
      · cases e
        exact (hn rfl).elim
      · exact ih e
theorem clo_look {cells : List (PySem.Str × Addr)} {names : List (PySem.Str × NameKind)} {x : PySem.Str} {c : Addr} (h : (cloFrom cells names []).lookup x = some c) : (x, .free) ∈ names ∧ c = (cells.lookup x).getD 0 := by
  rcases cloFrom_mem (PySem.mem_of_lookup h) with z | z
  · cases z
  · exact z
/-- a lambda that was made here, its values being those of the slots -/
theorem cloIs_tk {cells : List (PySem.Str × Addr)} {N : List PySem.Str} {σ : L2.St} {H H2 : Hp} {f c' : Addr} {D : LamD} {ws : List V} (t : TkH cells N σ H H2) (L : LamOk D) (inj : Inj cells) (has : ∀ x ∈ D.N, ∃ c, cells.lookup x = some c)
    (hf : H f = some (CloX f D.q D.ps D.b D.sc (cloFrom cells D.sc.names []) c')) (hc : H c' = some (CodeO c' D.q)) (hl : ws.length = D.N.length) (hv : ∀ (i : Nat) (x : PySem.Str) (v : V), D.N[i]? = some x → ws[i]? = some v → ∃ j : Nat, N[j]? = some x ∧ σ[j]? = some (some v)) :
    CloIs H2 f D ws := by
  refine ⟨cloFrom cells D.sc.names [], c', t.same _ _ hf, t.same _ _ hc, fun x y c e1 e2 => ?_, fun x c e => L.free _ (clo_look e).1 rfl, hl, fun i x v e1 e2 => ?_⟩
  · obtain ⟨m1, z1⟩ := clo_look e1
    obtain ⟨m2, z2⟩ := clo_look e2
    obtain ⟨c1, h1⟩ := has x (L.free _ m1 rfl)
    obtain ⟨c2, h2⟩ := has y (L.free _ m2 rfl)
    rw [h1] at z1
    rw [h2] at z2
    have z1 : c = c1 := z1
    have z2 : c = c2 := z2
    subst z1 z2
    exact inj x y _ h1 h2
  · have hx := L.look x (List.mem_of_getElem? e1)
    obtain ⟨c1, h1⟩ := has x (List.mem_of_getElem? e1)
    obtain ⟨c, hcl⟩ := look_has (cloFrom_has (cells := cells) (acc := []) (PySem.mem_of_lookup hx))
    obtain ⟨_, z⟩ := clo_look hcl
    rw [h1] at z
    have z : c = c1 := z
    subst z
    obtain ⟨j, j1, j2⟩ := hv i x v e1 e2
    obtain ⟨ob, u, o1, o2, o3⟩ := t.val j x v c j1 j2 h1
    exact ⟨c, ob, u, hcl, o1, o2, o3⟩
theorem tk_unc {cells : List (PySem.Str × Addr)} {N : List PySem.Str} {σ : L2.St} {H H2 H3 : Hp} (t : TkH cells N σ H H2) (s : Same H2 H3) : Same H (unc cells H3) := fun b o e => by
  have nz : ¬ InC cells b := fun z => by
    rw [t.free b z] at e
    cases e
  rw [unc_out nz]
  refine s b o ?_
  rw [t.out b nz]
  exact e
theorem tk_keep {cells : List (PySem.Str × Addr)} {N : List PySem.Str} {σ : L2.St} {H H2 H3 : Hp} (t : TkH cells N σ H H2) (s : Same H2 H3) : ∀ b, InC cells b → H3 b = H2 b := fun b z => by
  obtain ⟨ob, u, e, _⟩ := t.cells b z
  rw [e, s b _ e]
/-- .. in pairs, as a check over names -/
def valsB (N : List PySem.Str) (σ : L2.St) (M : List PySem.Str) (ws : List V) : Prop := ws.length = M.length ∧ ∀ (i : Nat) (x : PySem.Str) (v : V), M[i]? = some x → ws[i]? = some v → ∃ j : Nat, N[j]? = some x ∧ σ[j]? = some (some v)
theorem valsB_nil {N : List PySem.Str} {σ : L2.St} : valsB N σ [] [] := ⟨rfl, fun _ _ _ h => by simp at h⟩
theorem valsB_cons {N : List PySem.Str} {σ : L2.St} {x : PySem.Str} {v : V} {M : List PySem.Str} {ws : List V} (j : Nat) (h1 : N[j]? = some x) (h2 : σ[j]? = some (some v)) (r : valsB N σ M ws) : valsB N σ (x :: M) (v :: ws) :=
  ⟨congrArg Nat.succ r.1, fun i y u e1 e2 => by
    cases i with
    | zero =>
      cases e1
      cases e2
      exact ⟨j, h1, h2⟩
    | succ i => exact r.2 i y u (by simpa using e1) (by simpa using e2)⟩
end Un

set_option maxRecDepth 100000
set_option maxHeartbeats 4000000
namespace Un
open PySem PySem.Spec PyProof.Rows L2 LamX
/-! ### a def that makes lambdas: its code object is at c -/
structure FunC (K : PySem.W.Frag) (x qual : PySem.Str) (st : Stmt) (f : Addr) (fd : FuncData) (c : Addr) : Prop where
  ex : ∃ (oc : Value) (od : Option Addr) (kV doc pm : Value) (an : Option Addr) (ct : Value) (osl : Array (Option Value)),
    fd = PySem.W.fnOf x qual (defArgs st) (defBody st) (defScope st) .none kV doc pm an (.ref c) ct ∧ K.lookup f = some ⟨oc, od, .func fd, osl⟩ ∧ PySem.W.codeIn K (.ref c) qual = true
  kp : PySem.W.keepIn K (.ref f) = true
theorem FunC.fn {K : PySem.W.Frag} {x qual : PySem.Str} {st : Stmt} {f : Addr} {fd : FuncData} {c : Addr} (F : FunC K x qual st f fd c) : Fun K x qual st f fd := by
  obtain ⟨oc, od, kV, doc, pm, an, ct, osl, h1, h2, h3⟩ := F.ex
  exact ⟨⟨oc, od, kV, doc, pm, an, .ref c, ct, osl, h1, h2, h3⟩, F.kp⟩
section
variable {P : Program} {w : World} {K : PySem.W.Frag} {mg : PySem.Str → Option Value} {base : Heap} {x qual : PySem.Str} {st : Stmt} {f c : Addr} {fd : FuncData}
theorem fnG_okC {N ps : List PySem.Str} {k : Nat} {sp : Sp} (F : FunC K x qual st f fd c) (S : FnScope N ps (defScope st)) (len : ∀ vs H Q E, sp vs H Q E → vs.length = ps.length)
    (body : ∀ (A : Around) (outer : List Env) (s : Shared) (H : Hp) (vs : List V) (Q : VK), A.guards = some [] → Room k (A.deeper (envOfC qual (defScope st) s.heap.objs.size f (.ref c))) → sp vs H Q E0 →
      ∃ t, PSs (cxOf CX0 P w K mg base N qual (defScope st) f (.ref c) A outer s H E0).nox (defBody st) t ∧ t { nx := fun _ H' => Q .non H', rt := Q } (start N vs) H) : FnG P w K mg base (k + 1) f fd ps sp := by
  obtain ⟨oc, od, kV, doc, pm, an, ct, osl, efd, lk, hcd⟩ := F.ex
  subst efd
  refine ⟨len, ?_⟩
  intro A outer s H args us vs Q hg hr e0 hb r hsp
  have hl := len vs H Q E0 hsp
  have same : ∀ b o, base.get? b = some o → s.heap.get? b = some o := fun b o e => (e0.bs b o e).1
  have inK : K.In s.heap := e0.mod.kin.keeps same
  have nolim : s.heap.NoLimit := e0.mod.nolimit.keeps same
  refine codeAny_call_function hr.depth (inK _ _ lk) rfl S.co S.gen rfl (PySem.W.codeRec_of inK hcd) (hb _ _ _ _ ?_)
  refine wpAny_newFunctionEnv_cells S.kind ?_ ?_
  · rintro ⟨n, v⟩ hy
    rcases S.par n (List.of_mem_zip hy).1 with q | q
    · exact Or.inl q
    · exact Or.inr ⟨q, PySem.W.cellsFrom_some _ _ _ (Or.inl q)⟩
  · intro env he s1 x1
    subst he
    refine ⟨nolim.keeps x1.toInCall.keep, codeAny_func ?_⟩
    obtain ⟨t, ht, hq⟩ := body A outer s H vs Q hg (hr.deeper _) hsp
    have I0 := inv_start (CX := CX0) (P := P) (w := w) (K := K) (mg := mg) (base := base) (E := E0) (cd := .ref c) S hr.hd e0 hl r x1
    refine wpAny_mono (ht.nox.run [] s1 (start N vs) H _ I0 hq) ?_ (fun e s' hs => hs)
    rintro fl s' hs
    cases fl with
    | ret u =>
      obtain ⟨v, σ', H', J, rv, q⟩ := hs
      exact ⟨v, H', J.os, J.bare, J.base, J.hok, rv, q⟩
    | next =>
      obtain ⟨σ', H', J, q⟩ := hs
      exact ⟨.non, H', J.os, J.bare, J.base, J.hok, rfl, q⟩
    | brk =>
      obtain ⟨_, _, _, q⟩ := hs
      exact q.elim
    | cont =>
      obtain ⟨_, _, _, q⟩ := hs
      exact q.elim
end
/-! ### a def's own cells -/
theorem cells_kind : ∀ (names : List (PySem.Str × NameKind)) (n : Nat) (acc : List (PySem.Str × Addr)) {x : PySem.Str} {c : Addr}, (cellsFrom n names acc).lookup x = some c → (x, .cell) ∈ names ∨ acc.lookup x = some c
  | [], _, _, _, _, h => .inr h
  | (m, k) :: r, n, acc, x, c, h => by
    unfold cellsFrom at h
    split at h
    · rename_i hk
      rcases cells_kind r (n + 1) ((m, n) :: acc) h with z | z
      · exact .inl (List.mem_cons_of_mem _ z)
      · rw [look_cons] at z
        split at z
        · rename_i e
          have hk : k = .cell := by simpa using hk
          rw [e, hk]
          exact .inl List.mem_cons_self
        · exact .inr z
    · rcases cells_kind r n acc h with z | z
      · exact .inl (List.mem_cons_of_mem _ z)
      · exact .inr z
theorem cells_kind0 {names : List (PySem.Str × NameKind)} (hd : (names.all fun p => names.lookup p.1 == some p.2) = true) {n : Nat} {x : PySem.Str} {c : Addr} (h : (cellsFrom n names []).lookup x = some c) : names.lookup x = some .cell := by
  rcases cells_kind names n [] h with z | z
  · exact eq_of_beq (List.all_eq_true.mp hd _ z)
  · simp at z
end Un

set_option maxRecDepth 100000
set_option maxHeartbeats 4000000
namespace Un
open PySem PySem.Spec PyProof.Rows L2 LamX
/-! ### lambdas in a list: what statements do with them -/
/-- a lambda of this text stands at f, its cells being those of cs -/
def Made (cs : List (PySem.Str × Addr)) (H : Hp) (f : Addr) (D : LamD) : Prop := ∃ c', H f = some (CloX f D.q D.ps D.b D.sc (cloFrom cs D.sc.names []) c') ∧ H c' = some (CodeO c' D.q)
theorem clo_tbl {f c' : Addr} {q : PySem.Str} {ps : Arguments} {b : Expr} {sc : Scope} {cl : List (PySem.Str × Addr)} (as : Array Value) : CloX f q ps b sc cl c' ≠ .tbl as := fun z => by unfold CloX at z; cases z
/-- all but p and the tables stay -/
def ExtP (p : Addr) (H H' : Hp) : Prop := ∀ b o, b ≠ p → H b = some o → (∀ ps, o ≠ .tbl ps) → H' b = some o
theorem ExtP.trans {p : Addr} {H H1 H2 : Hp} (a : ExtP p H H1) (b : ExtP p H1 H2) : ExtP p H H2 := fun c o h1 h2 h3 => b c o h1 (a c o h1 h2 h3) h3
theorem ExtP.of {p : Addr} {H H' : Hp} (a : ExtN H H') : ExtP p H H' := fun c o _ h2 h3 => a c o h2 h3
theorem ExtP.mut {p : Addr} {H H' : Hp} {o : HO} (a : ExtP p H H') : ExtP p H (upd H' p o) := fun c u h1 h2 h3 => by
  rw [upd_ne h1]
  exact a c u h1 h2 h3
/-- nothing but a table stands at p, if anything -/
def NoO (H : Hp) (p : Addr) : Prop := ∀ o, H p = some o → ∃ ps, o = .tbl ps
theorem ExtP.new {p : Addr} {H H' : Hp} (a : ExtP p H H') (hp : NoO H p) : ExtN H H' := fun c o h2 h3 => a c o (fun z => by
  subst z
  obtain ⟨ps, e⟩ := hp o h2
  exact h3 ps e) h2 h3
section
variable {T : List (Addr × PySem.Str)} {K : PySem.W.Frag} {cs : List (PySem.Str × Addr)} {D : LamD} {i : Nat} {σ : L2.St} {H H' : Hp} {N : Ends} {p f : Addr}
theorem Made.ext (m : Made cs H f D) (x : ExtN H H') : Made cs H' f D := by
  obtain ⟨c', h1, h2⟩ := m
  exact ⟨c', x _ _ h1 (clo_tbl), x _ _ h2 codeO_ne⟩
theorem Made.extP (m : Made cs H f D) (x : ExtP p H H') {xs : List V} (hp : H p = some (.lst xs)) : Made cs H' f D := by
  obtain ⟨c', h1, h2⟩ := m
  refine ⟨c', x _ _ (fun z => ?_) h1 clo_tbl, x _ _ (fun z => ?_) h2 codeO_ne⟩
  · rw [z, hp] at h1
    unfold CloX at h1
    cases h1
  · rw [z, hp] at h2
    unfold CodeO at h2
    cases h2
theorem tabs_new {q : Addr} {o : HO} (t : Tabs T H) (n : H q = none) : Tabs T (upd H q o) := t.ext fun b u e => same_upd n b u e
theorem tabs_upd {q : Addr} {o : HO} {xs : List V} (t : Tabs T H) (n : H q = some (.lst xs)) : Tabs T (upd H q o) := fun z hz => by
  obtain ⟨ps, h1, h2, h3⟩ := t z hz
  refine ⟨ps, ?_, h2, fun pos cv h => ?_⟩
  · rw [upd_ne fun e => by rw [e, n] at h1; cases h1]
    exact h1
  · obtain ⟨c, e1, e2⟩ := h3 pos cv h
    refine ⟨c, e1, ?_⟩
    rw [upd_ne fun e => by rw [e, n] at e2; unfold CodeO at e2; cases e2]
    exact e2
/-- x = [lambda: ..] -/
theorem st_lam1 (hT : Tabs T H) (k : ∀ p f H', ExtN H H' → Tabs T H' → NoO H p → H' p = some (.lst [.ref f]) → Made cs H' f D → N.nx (σ.set i (some (.ref p))) H') :
    tAsg (tLst (tCons (tLamV T cs D.q D.ps D.b D.sc) tNil)) (gName i) N σ H := by
  refine ⟨hT, fun f1 e1 H1 x1 t1 n1 o1 => ⟨(by show 1 ≤ sizeLine; decide), fun p np => ?_⟩⟩
  have s2 : Same H1 (upd (upd H1 f1 (CloX f1 D.q D.ps D.b D.sc (cloFrom cs D.sc.names []) e1)) p (.lst [.ref f1])) := (same_upd n1).trans (same_upd np)
  have np0 : H1 p = none := (same_upd n1).free np
  refine k p f1 _ (x1.trans (ExtN.of s2)) (t1.ext s2) ?_ upd_same ⟨e1, ?_, s2 _ _ o1⟩
  · intro o e
    refine Classical.byContradiction fun z => ?_
    have := x1 p o e fun ps h => z ⟨ps, h⟩
    rw [np0] at this
    cases this
  · rw [upd_ne (ne_of_none upd_same np), upd_same]
/-- x.append(lambda: ..) -/
theorem st_lam2 {vs : List V} (hs : σ[i]? = some (some (.ref p))) (hl : H p = some (.lst vs)) (hlen : vs.length ≤ 1000) (hT : Tabs T H) (k : ∀ f H', ExtP p H H' → Tabs T H' → H' p = some (.lst (vs ++ [.ref f])) → Made cs H' f D → N.nx σ H') :
    tDrop (tBM K "list" rAppend (tVar i) (tCons (tLamV T cs D.q D.ps D.b D.sc) tNil)) N σ H := by
  refine ⟨_, hs, .inl ⟨rfl, _, sqL_of hl⟩, hT, fun f1 e1 H1 x1 t1 n1 o1 => ?_⟩
  have hl1 : H1 p = some (.lst vs) := x1 _ _ hl fun _ z => nomatch z
  have nf : p ≠ f1 := ne_of_none hl1 n1
  have hl2 : (upd H1 f1 (CloX f1 D.q D.ps D.b D.sc (cloFrom cs D.sc.names []) e1)) p = some (.lst vs) := by
    rw [upd_ne nf]
    exact hl1
  refine ⟨p, vs, .ref f1, rfl, rfl, hl2, Nat.lt_of_le_of_lt hlen (by decide), ?_⟩
  refine k f1 _ (((ExtP.of x1).trans (ExtP.of (ExtN.of (same_upd n1)))).mut) (tabs_upd (tabs_new t1 n1) hl2) upd_same ⟨e1, ?_, ?_⟩
  · rw [upd_ne (Ne.symm nf), upd_same]
  · have ne1 : e1 ≠ p := fun z => by
      rw [z, hl1] at o1
      unfold CodeO at o1
      cases o1
    rw [upd_ne ne1, upd_ne (ne_of_none o1 n1)]
    exact o1
theorem ret_op {r : R2} {ta tb : TE} {σ : L2.St} {H : Hp} {N : Ends} (h : ta σ H fun x H1 => tb σ H1 fun y H2 => r x y H2 N.rt) : tRet (tOp r ta tb) N σ H := h
/-- [x for x in l if kept(x) != due], all being as due -/
theorem lc_kept {j : Nat} {fs : List Addr} {spK : Sp} {tdue : TE} {t : PySem.Str} {σ0 : L2.St} {NN : List PySem.Str} {Q : VK} (hs : σ[i]? = some (some (.ref p))) (hj : j < σ.length) (hl : H p = some (.lst (fs.map V.ref)))
    (hdue : ∀ f H1 (Q' : VK), Same H H1 → (∀ H2, Same H1 H2 → Q' (.str t) H2) → tdue ((σ.set j none).set j (some (.ref f))) H1 Q')
    (hk : ∀ f ∈ fs, ∀ H1 H2, Same H H1 → TkH cs NN σ0 H1 H2 → ∀ Q' : VK, (∀ H3, Same H2 H3 → Q' (.str t) H3) → spK [.ref f] H2 Q' E0) (q : ∀ d H', Same H H' → H' d = some (.lst []) → Q (.ref d) H') :
    tLc (iList K (tVar i)) (gName j) (tTest (tOp rNe (tCallW cs NN (fun _ => σ0) spK (tCons (tVar j) tNil)) tdue)) (tVar j) [j] σ H Q := by
  refine ⟨_, hs, p, rfl, ⟨_, sqL_of hl⟩, fun d nd => ?_⟩
  refine lc_list (K := K) (a := p) (xs := fs.map V.ref) (fun _ H' => Same H H' ∧ H' d = some (.lst [])) ⟨same_upd nd, upd_same⟩ (fun _ H' _ ⟨s1, _⟩ => sqL_of (s1 _ _ hl)) ?_ fun H' ⟨s1, h1⟩ => q d H' s1 h1
  rintro m x H1 hx ⟨s1, h1⟩
  rw [List.getElem?_map] at hx
  obtain ⟨f, hf, rfl⟩ := Option.map_eq_some_iff.mp hx
  have hw : wipe (((σ.set j none).set j (some (V.ref f)))) [j] = wipe σ [j] := by
    show ((σ.set j none).set j (some (V.ref f))).set j none = σ.set j none
    rw [List.set_set, List.set_set]
  have hjj : ((σ.set j none).set j (some (V.ref f)))[j]? = some (some (.ref f)) := by
    rw [List.getElem?_set_self (by rw [List.length_set]; exact hj)]
  refine ⟨hw, .ref f, hjj, fun H2 tk => ?_⟩
  refine hk f (List.mem_of_getElem? hf) H1 H2 s1 tk _ fun H3 s3 => ⟨tk_keep tk s3, ?_⟩
  have s4 : Same H1 (unc cs H3) := tk_unc tk s3
  refine hdue f (unc cs H3) _ (s1.trans s4) fun H5 s5 => ⟨rfl, false, by simp, iteF ⟨s1.trans (s4.trans s5), ?_⟩⟩
  exact (s4.trans s5) _ _ h1
end
end Un

set_option maxRecDepth 100000
set_option maxHeartbeats 4000000
namespace Un
open PySem PySem.Spec PyProof.Rows L2
/-! ### repr of any thing -/
structure ReprX (d : PyData) : Prop where
  sh : d.showable = true
  dp : d.depth ≤ 60
  ln : d.shown.length ≤ sizeLine
  dc : d.hasDict = false ∨ d = .dict []
def rReprX : List V → Hp → VK → Prop := fun vs H Q => ∃ (v : V) (d : PyData), vs = [v] ∧ Rp Tr H v d ∧ ReprX d ∧ Q (.str d.shown) H
theorem call_reprX {X : Cx} (hg : X.A.guards = some []) (hu : X.A.units + 64 < cLine) : CallR X (.builtin "repr") rReprX := by
  intro pins s σ H vs us Q I r h
  obtain ⟨v, d, rfl, rv, ⟨h1, h2, h3, h4⟩, q⟩ := h
  have big : d.hasDict = false → ∀ a, v = .ref a → wpAny (model X.prog X.w) X.A (call (.builtin "repr") us) (EP X pins σ Q) X.xe s := fun nd a e => by
    subst e
    exact call_reprD hg hu pins s σ H [.ref a] us Q I r ⟨a, d, rfl, rv.dp nd, ⟨h1, nd, h2, h3⟩, q⟩
  obtain ⟨u, rfl, ru⟩ := vals1 r
  cases rv with
  | non =>
    obtain rfl : u = Value.none := ru
    exact PySem.P.repr_of_none ⟨.str _, H, I.tok _, ⟨_, rfl⟩, q⟩
  | bl b =>
    obtain rfl : u = Value.bool b := ru
    refine PySem.P.repr_of_bool ⟨.str _, H, I.tok _, ⟨_, rfl⟩, ?_⟩
    cases b <;> exact q
  | int i =>
    obtain ⟨t, rfl⟩ := ru
    have hz : i.natAbs.log2 < 1920 := by simpa [PyData.showable] using h1
    exact PySem.P.repr_of_int hz ⟨.str _, H, I.tok _, ⟨_, rfl⟩, q⟩
  | str x =>
    obtain ⟨t, rfl⟩ := ru
    exact PySem.P.repr_of_str ⟨.str _, H, I.tok _, ⟨_, rfl⟩, q⟩ h3
  | lst _ _ _ =>
    rcases h4 with h4 | h4
    · exact big h4 _ rfl
    · cases h4
  | tup _ _ =>
    rcases h4 with h4 | h4
    · exact big h4 _ rfl
    · cases h4
  | @dic a kvs ds ha _ ra =>
    rcases h4 with h4 | h4
    · simp [PyData.hasDict] at h4
    have e0 : kvs = [] := by
      cases kvs with
      | nil => rfl
      | cons z zs =>
        cases ra with
        | cons _ _ => cases h4
    subst e0
    obtain rfl : u = Value.ref a := ru
    have hx : ObjOk X.prog X.w H s.heap a (.dK []) := I.hok a _ ha
    obtain ⟨_, hs, vs, hv, o, es, ep, ho, hc, hd, _, hp, _⟩ := hx
    cases hv
    have ees : es.toList = [] := by
      generalize es.toList = l at hp
      cases hp
      rfl
    have rd : Reads s.heap (.ref a) (.dict []) (a :: [] ++ []) := Reads.dict ho hc.1 hd (by rw [ees]; exact .nil) (by rw [ees]; exact .nil)
    have ed : PyData.dict ((([] : List (Key × V)).map fun z => keyD z.1).zip ds) = .dict [] := rfl
    rw [ed] at q h1 h2 h3
    refine repr_of_reads' rd h1 (fun _ hm => ?_) hg (by omega) (fun _ _ z => z) (fun h' u tk hk => ⟨.str _, H, I.kept hk, ⟨u, rfl⟩, q⟩) h3
    have : sysModules = a := by simpa using hm
    subst this
    simp at hs
end Un
namespace Un
open PySem PySem.Spec PyProof.Rows L2
/-- x is True, x is False, x a truth value -/
def rIsB : R2 := fun x y H Q => ∃ a b, x = .bl a ∧ y = .bl b ∧ Q (.bl (decide (a = b))) H
theorem op_isB {X : Cx} : OpR X (compareOp .Is) rIsB := by
  intro pins s σ H x y v u Q I rx ry h
  obtain ⟨a, b, rfl, rfl, q⟩ := h
  obtain rfl : v = Value.bool a := rx
  obtain rfl : u = Value.bool b := ry
  show wpAny _ _ ((isSame (Value.bool a) (Value.bool b)) >>= fun z => pure (Value.bool z)) _ _ s
  refine wpAny_bind (wpAny_isSame_plain (by cases a <;> cases b <;> rfl) (wpAny_pure ⟨.bl _, H, I, ?_, q⟩))
  cases a <;> cases b <;> rfl
end Un

set_option maxRecDepth 100000
set_option maxHeartbeats 4000000
namespace Un
open PySem PySem.Spec PyProof.Rows L2
/-! ### data that can be shown, by a check that the kernel runs -/
mutual
def leafB : PyData → Bool
  | .none => true
  | .bool _ => true
  | .int i => decide (i.natAbs < 10 ^ 30)
  | .str x => x.cps.toList.all fun c => decide (c < 16 ^ 8)
  | .list xs => leafBA xs
  | .tuple xs => leafBA xs
  | .dict _ => false
def leafBA : List PyData → Bool
  | [] => true
  | x :: xs => leafB x && leafBA xs
end
theorem log_small30 {n : Nat} (h : n < 10 ^ 30) : n.log2 < 1920 := by
  by_cases e : n = 0
  · subst e
    decide
  · refine (Nat.log2_lt e).mpr (Nat.lt_trans h ?_)
    exact Nat.lt_of_lt_of_le (by decide : 10 ^ 30 < 2 ^ 100) (Nat.pow_le_pow_right (by decide) (by decide))
mutual
theorem leafB_ok : ∀ d : PyData, leafB d = true → d.showable = true ∧ d.hasDict = false ∧ d.leavesShort 31 = true
  | .none, _ => ⟨rfl, rfl, rfl⟩
  | .bool _, _ => ⟨rfl, rfl, rfl⟩
  | .int i, h => by
    have h : i.natAbs < 10 ^ 30 := by simpa only [leafB, decide_eq_true_eq] using h
    refine ⟨?_, rfl, ?_⟩
    · simp only [PyData.showable, decide_eq_true_eq]
      exact log_small30 h
    · simp only [PyData.leavesShort, decide_eq_true_eq]
      show (Str.ofString (toString i)).length ≤ 31
      rw [PySem.ofString_length]
      exact int_text_length_le10 (k := 30) (by decide) h
  | .str x, h => ⟨rfl, rfl, by simpa only [leafB, PyData.leavesShort] using h⟩
  | .list xs, h => by
    obtain ⟨a, b, c⟩ := leafBA_ok xs (by simpa only [leafB] using h)
    exact ⟨by simpa only [PyData.showable] using a, by simpa only [PyData.hasDict] using b, by simpa only [PyData.leavesShort] using c⟩
  | .tuple xs, h => by
    obtain ⟨a, b, c⟩ := leafBA_ok xs (by simpa only [leafB] using h)
    exact ⟨by simpa only [PyData.showable] using a, by simpa only [PyData.hasDict] using b, by simpa only [PyData.leavesShort] using c⟩
  | .dict _, h => by simp [leafB] at h
theorem leafBA_ok : ∀ ds : List PyData, leafBA ds = true → PyData.showableAll ds = true ∧ PyData.hasDictAll ds = false ∧ PyData.leavesShortAll 31 ds = true
  | [], _ => ⟨rfl, rfl, rfl⟩
  | x :: xs, h => by
    simp only [leafBA, Bool.and_eq_true] at h
    obtain ⟨a1, b1, c1⟩ := leafB_ok x h.1
    obtain ⟨a2, b2, c2⟩ := leafBA_ok xs h.2
    exact ⟨by simp only [PyData.showableAll, a1, a2, Bool.and_self], by simp only [PyData.hasDictAll, b1, b2, Bool.or_self], by simp only [PyData.leavesShortAll, c1, c2, Bool.and_self]⟩
end
def smallB (d : PyData) : Bool := leafB d && decide (d.depth ≤ 60) && decide (d.bulk ≤ 4096)
theorem smallB_ok {d : PyData} (h : smallB d = true) : ReprOk d := by
  unfold smallB at h
  simp only [Bool.and_eq_true, decide_eq_true_eq] at h
  obtain ⟨⟨h1, h2⟩, h3⟩ := h
  obtain ⟨a, b, c⟩ := leafB_ok d h1
  refine ⟨a, b, h2, ?_⟩
  have := PyData.shown_le_bulk 31 (by decide) d c
  rw [sizeLine_eq]
  omega
def smallX (d : PyData) : Bool := smallB d || (match d with | .dict [] => true | _ => false)
theorem dic0_ok : ReprX (.dict []) := ⟨by decide +kernel, by decide +kernel, by decide +kernel, .inr rfl⟩
theorem smallX_ok {d : PyData} (h : smallX d = true) : ReprX d := by
  unfold smallX at h
  rw [Bool.or_eq_true] at h
  rcases h with h | h
  · have r := smallB_ok h
    exact ⟨r.sh, r.dp, r.ln, .inl r.nd⟩
  · split at h
    · exact dic0_ok
    · cases h
end Un

set_option maxRecDepth 100000
set_option maxHeartbeats 4000000
namespace Un
open PySem PySem.Spec PyProof.Rows L2
/-! ### by hand beside an object that changes (the draws at d): all else is data on the heap without d -/
def dl (d : Addr) (H : Hp) : Hp := fun b => if b = d then none else H b
section
variable {d : Addr} {H H' : Hp} {K : PySem.W.Frag}
theorem dl_at : dl d H d = none := if_pos rfl
theorem dl_ne {b : Addr} (h : b ≠ d) : dl d H b = H b := if_neg h
theorem dl_some {b : Addr} {o : HO} (e : dl d H b = some o) : b ≠ d ∧ H b = some o := by
  by_cases z : b = d
  · rw [z, dl_at] at e
    cases e
  · rw [dl_ne z] at e
    exact ⟨z, e⟩
theorem dl_same : Same (dl d H) H := fun b o e => (dl_some e).2
theorem dl_but (s : SameBut (· = d) H H') : Same (dl d H) (dl d H') := fun b o e => by
  obtain ⟨n, e⟩ := dl_some e
  rw [dl_ne n]
  exact s b o n e
theorem dl_of (s : Same H H') : Same (dl d H) (dl d H') := dl_but (Same.but s)
theorem dl_grow {G2 : Hp} (hd : H d ≠ none) (g : Grow (dl d H) H G2 H') : Same G2 (dl d H') := fun b o e => by
  have n : b ≠ d := fun z => by
    rw [z, g.nw d hd dl_at] at e
    cases e
  rw [dl_ne n]
  exact g.gh b o e
/-- what the slots hold, as far as it is known -/
inductive RpS (G : Hp) : L2.St → List (Option PyData) → Prop
  | nil : RpS G [] []
  | no {o : Option V} {σ : L2.St} {qs : List (Option PyData)} : RpS G σ qs → RpS G (o :: σ) (none :: qs)
  | yes {v : V} {D : PyData} {σ : L2.St} {qs : List (Option PyData)} : Rp (fun _ => True) G v D → RpS G σ qs → RpS G (some v :: σ) (some D :: qs)
def rhoD (qs : List (Option PyData)) : Rho := qs.map fun q => q.map fun D => (D, nol D)
theorem RpS.len {G : Hp} : ∀ {σ : L2.St} {qs : List (Option PyData)}, RpS G σ qs → σ.length = qs.length
  | _, _, .nil => rfl
  | _, _, .no h => by rw [List.length_cons, List.length_cons, RpS.len h]
  | _, _, .yes _ h => by rw [List.length_cons, List.length_cons, RpS.len h]
theorem RpS.get {G : Hp} : ∀ {σ : L2.St} {qs : List (Option PyData)} {i : Nat} {D : PyData}, RpS G σ qs → qs[i]? = some (some D) → ∃ v, σ[i]? = some (some v) ∧ Rp (fun _ => True) G v D
  | _, _, _, _, .nil, e => by simp at e
  | _, _, 0, _, .no h, e => by simp at e
  | _, _, 0, _, .yes r h, e => by
    simp at e
    subst e
    exact ⟨_, rfl, r⟩
  | _, _, i + 1, _, .no h, e => by
    obtain ⟨v, a, b⟩ := RpS.get (i := i) h (by simpa using e)
    exact ⟨v, by simpa using a, b⟩
  | _, _, i + 1, _, .yes _ h, e => by
    obtain ⟨v, a, b⟩ := RpS.get (i := i) h (by simpa using e)
    exact ⟨v, by simpa using a, b⟩
theorem RpS.e {Z : Addr → Prop} {G : Hp} {σ : L2.St} {qs : List (Option PyData)} (h : RpS G σ qs) : RepE Z G σ (rhoD qs) := by
  refine ⟨by rw [h.len]; unfold rhoD; rw [List.length_map], fun i p e => ?_⟩
  unfold rhoD at e
  rw [List.getElem?_map] at e
  obtain ⟨q, e1, e2⟩ := Option.map_eq_some_iff.mp e
  obtain ⟨D, rfl, e3⟩ := Option.map_eq_some_iff.mp e2
  obtain ⟨v, a, b⟩ := h.get e1
  subst e3
  exact ⟨v, a, rp_nol b⟩
/-- .. as the start of a block of statements -/
def rhoS (qs : List (Option PyData)) : RhoS := qs.map fun q => match q with
  | none => .no
  | some D => .fz (D, nol D)
theorem RpS.s {G H : Hp} (gh : Same G H) {σ : L2.St} {qs : List (Option PyData)} (h : RpS G σ qs) : RepS G H G H σ (rhoS qs) := by
  have key : ∀ (i : Nat) (e : En), (rhoS qs)[i]? = some e → e = .no ∨ ∃ D v, e = .fz (D, nol D) ∧ σ[i]? = some (some v) ∧ Rp (fun _ => True) G v D := fun i e he => by
    unfold rhoS at he
    rw [List.getElem?_map] at he
    obtain ⟨q, e1, e2⟩ := Option.map_eq_some_iff.mp he
    cases q with
    | none => exact .inl e2.symm
    | some D =>
      obtain ⟨v, a, b⟩ := h.get e1
      exact .inr ⟨D, v, e2.symm, a, b⟩
  refine ⟨Grow.refl gh, by rw [h.len]; unfold rhoS; rw [List.length_map], fun i p e => ?_, fun i ds n e => ?_, fun i j l ds es n m e1 _ _ _ => ?_, fun i p e => ?_⟩
  · rcases key i _ e with z | ⟨D, v, e1, e2, e3⟩
    · cases z
    · cases e1
      exact ⟨v, e2, rp_nol e3⟩
  · rcases key i _ e with z | ⟨D, v, e1, _⟩
    · cases z
    · cases e1
  · rcases key i _ e1 with z | ⟨D, v, e1, _⟩
    · cases z
    · cases e1
  · rcases key i _ e with z | ⟨D, v, e1, _⟩
    · cases z
    · cases e1
theorem rhoD_y {D : PyData} {qs : List (Option PyData)} : rhoD (some D :: qs) = some (D, nol D) :: rhoD qs := id rfl
theorem rhoD_n {qs : List (Option PyData)} : rhoD (none :: qs) = none :: rhoD qs := id rfl
theorem getR_0 {p : PB} {ρ : Rho} : getR (some p :: ρ) 0 = some p := id rfl
theorem getR_S {o : Option PB} {ρ : Rho} {i : Nat} : getR (o :: ρ) (i + 1) = getR ρ i := id rfl
/-- an expression beside the draws -/
theorem te_d {e : EX} {r : Rs} {qs : List (Option PyData)} {σ : L2.St} {Q : VK} (hd : H d ≠ none) (R : RpS (dl d H) σ qs) (h : ev e (rhoD qs) = some r) (k : ∀ v H', Same H H' → Rp (fun _ => True) (dl d H') v r.d → Q v H') : te K e σ H Q := by
  refine ev_ok e _ r h (Zn H) (dl d H) H σ Q R.e (fun a e => e) dl_same (fun v H' G' g er => ?_)
  obtain ⟨G2, g2, _, rp⟩ := er.settle (fun a e => e) g
  exact k v H' g2.sH (rp.mono (fun _ _ => trivial) (dl_grow hd g2))
theorem tt_d {e : TX} {b : Bool} {qs : List (Option PyData)} {σ : L2.St} {Q : Bool → Hp → Prop} (R : RpS (dl d H) σ qs) (h : evT e (rhoD qs) = some b) (k : ∀ H', Same H H' → Q b H') : tt K e σ H Q :=
  evT_ok e _ b h (Zn H) (dl d H) H σ Q R.e (fun a e => e) dl_same (fun H' G' g => k H' g.sH)
theorem te_p {e : EX} {r : Rs} {qs : List (Option PyData)} {σ : L2.St} {Q : VK} (R : RpS H σ qs) (h : ev e (rhoD qs) = some r) (k : ∀ v H', Same H H' → Rp (fun _ => True) H' v r.d → Q v H') : te K e σ H Q := by
  refine ev_ok e _ r h (Zn H) H H σ Q R.e (fun a e => e) (Same.refl _) (fun v H' G' g er => ?_)
  obtain ⟨G2, g2, _, rp⟩ := er.settle (fun a e => e) g
  exact k v H' g2.sH (rp.mono (fun _ _ => trivial) g2.gh)
theorem tt_p {e : TX} {b : Bool} {qs : List (Option PyData)} {σ : L2.St} {Q : Bool → Hp → Prop} (R : RpS H σ qs) (h : evT e (rhoD qs) = some b) (k : ∀ H', Same H H' → Q b H') : tt K e σ H Q :=
  evT_ok e _ b h (Zn H) H H σ Q R.e (fun a e => e) (Same.refl _) (fun H' G' g => k H' g.sH)
theorem tas_p {es : EXs} {ps : List PB} {qs : List (Option PyData)} {σ : L2.St} {Q : List V → Hp → Prop} (R : RpS H σ qs) (h : evs es (rhoD qs) = some ps) (k : ∀ vs H', Same H H' → RpA (fun _ => True) H' vs (ps.map (·.1)) → Q vs H') : tas K es σ H Q := by
  refine evs_ok es _ ps h (Zn H) H H σ Q R.e (fun a e => e) (Same.refl _) (fun vs H' G' g er => ?_)
  exact k vs H' g.sH ((rps_any er).same g.gh)
theorem tas_d {es : EXs} {ps : List PB} {qs : List (Option PyData)} {σ : L2.St} {Q : List V → Hp → Prop} (hd : H d ≠ none) (R : RpS (dl d H) σ qs) (h : evs es (rhoD qs) = some ps) (k : ∀ vs H', Same H H' → RpA (fun _ => True) (dl d H') vs (ps.map (·.1)) → Q vs H') : tas K es σ H Q := by
  refine evs_ok es _ ps h (Zn H) (dl d H) H σ Q R.e (fun a e => e) dl_same (fun vs H' G' g er => ?_)
  exact k vs H' g.sH ((rps_any er).same (dl_grow hd g))
/-- a def of this layer called beside the draws -/
theorem spZ_d {fn : FnZ} {vs : List V} {Ds : List PyData} {r : PB} {Q : VK} {E : XK} (hd : H d ≠ none) (R : RpA (fun _ => True) (dl d H) vs Ds) (h : fn Ds = some r) (k : ∀ v H', Same H H' → Rp (fun _ => True) (dl d H') v r.1 → Q v H') : spZ fn vs H Q E :=
  ⟨fun a => H a = none, dl d H, Ds, r, h, fun a e => e, dl_same, R, fun v H' G' g rv => k v H' g.sH (rv.mono (fun _ _ => trivial) (dl_grow hd g))⟩
theorem spZ_p {fn : FnZ} {vs : List V} {Ds : List PyData} {r : PB} {Q : VK} {E : XK} (R : RpA (fun _ => True) H vs Ds) (h : fn Ds = some r) (k : ∀ v H', Same H H' → Rp (fun _ => True) H' v r.1 → Q v H') : spZ fn vs H Q E :=
  ⟨fun a => H a = none, H, Ds, r, h, fun a e => e, Same.refl _, R, fun v H' G' g rv => k v H' g.sH (rv.mono (fun _ _ => trivial) g.gh)⟩
theorem RpA.three {Z : Addr → Prop} {G : Hp} {vs : List V} {a b c : PyData} (h : RpA Z G vs [a, b, c]) : ∃ x y z, vs = [x, y, z] ∧ Rp Z G x a ∧ Rp Z G y b ∧ Rp Z G z c := by
  cases h with
  | cons r1 h =>
  cases h with
  | cons r2 h =>
  cases h with
  | cons r3 h =>
  cases h
  exact ⟨_, _, _, rfl, r1, r2, r3⟩
theorem RpA.two {Z : Addr → Prop} {G : Hp} {vs : List V} {a b : PyData} (h : RpA Z G vs [a, b]) : ∃ x y, vs = [x, y] ∧ Rp Z G x a ∧ Rp Z G y b := by
  cases h with
  | cons r1 h =>
  cases h with
  | cons r2 h =>
  cases h
  exact ⟨_, _, rfl, r1, r2⟩
/-- a web or a log beside the draws -/
theorem web_dl {a : Addr} {es : List (Int × Int)} {x y : Int} {b : Bool} (hd : H d = some (.lst [.int x, .int y, .bl b])) (h : WebL H a es) : Rp (fun _ => True) (dl d H) (.ref a) (.list (es.map dP)) := by
  obtain ⟨ts, h1, h2⟩ := h
  have na : a ≠ d := fun z => by
    rw [z, hd] at h1
    cases ts with
    | nil => cases h1
    | cons t ts => cases h1
  refine .lst (by rw [dl_ne na]; exact h1) trivial (Prs.rp (h2.keep fun t xs e => ?_))
  have nt : t ≠ d := fun z => by
    rw [z, hd] at e
    cases e
  rw [dl_ne nt]
  exact e
theorem rp_web {G : Hp} {v : V} {es : List (Int × Int)} (h : Rp (fun _ => True) G v (.list (es.map dP))) : ∃ a, v = .ref a ∧ WebL G a es := by
  cases h with
  | lst h1 _ h2 =>
    obtain ⟨ts, rfl, p⟩ := h2.prs
    exact ⟨_, rfl, ts, h1, p⟩
end
theorem sl_to {ds : List PyData} {n : Bool} {k : Nat} : slK (.list ds, n) none (some (k : Nat)) = some ⟨.list (ds.take k), n, true⟩ := by
  show some (Rs.mk (.list ((ds.drop (HT.sIx ds.length 0 none)).take (HT.sIx ds.length ds.length (some (k : Int)) - HT.sIx ds.length 0 none))) n true) = _
  rw [HT.sIx_nat, HT.sIx_none, List.drop_zero, Nat.sub_zero]
  by_cases h : k ≤ ds.length
  · rw [Nat.min_eq_left h]
  · rw [Nat.min_eq_right (by omega), List.take_of_length_le (Nat.le_refl _), List.take_of_length_le (by omega)]
theorem _root_.L2.Same.trans_but {S : Addr → Prop} {H H1 H2 : Hp} (a : Same H H1) (b : SameBut S H1 H2) (n : ∀ d, S d → H d = none) : Same H H2 := fun c o e => b c o (fun z => by
  rw [n c z] at e
  cases e) (a c o e)
theorem CalG.by {P : Program} {w : World} {K : PySem.W.Frag} {mg : Str → Option Value} {base : Heap} {k : Nat} {x : Str} {sp sp' : Sp} (c : CalG P w K mg base k x sp) (h : ∀ vs H Q, sp' vs H Q E0 → sp vs H Q E0) : CalG P w K mg base k x sp' := by
  obtain ⟨f, fd, ps, ds, dvs, sp0, a, b, c, d, e, g⟩ := c.ex
  exact ⟨⟨f, fd, ps, ds, dvs, sp0, a, b, c, d, e, fun vs H Q z => g vs H Q (h vs H Q z)⟩⟩
end Un

set_option maxRecDepth 100000
set_option maxHeartbeats 4000000
namespace Un
open PySem PySem.Spec PyProof.Rows L2 LamX
/-! ### loops over data, the tables growing -/
section
variable {T : List (Addr × PySem.Str)} {K : PySem.W.Frag} {g : TG} {tb : TS} {D : Ends} {σ : L2.St} {H : Hp} {qs : List (Option PyData)} {ds : List PyData}
/-- what a turn must do -/
def TurnD (T : List (Addr × PySem.Str)) (g : TG) (tb : TS) (D : Ends) (H : Hp) (ds : List PyData) (Iv : Nat → L2.St → Prop) : Prop := ∀ (i : Nat) (d : PyData) (x : V) (σ' : L2.St) (H' : Hp) (N : L2.St → Hp → Prop), ds[i]? = some d → Iv i σ' → ExtN H H' → Tabs T H' → Rp Tr H' x d →
  (∀ σ3 H3, Iv (i + 1) σ3 → ExtN H' H3 → Tabs T H3 → N σ3 H3) → g x σ' H' fun σ2 H2 => tb { D with nx := N, ct := N, bk := D.nx } σ2 H2
theorem for_rows {A : Addr} {xs : List V} (hA : H A = some (.lst xs)) (ra : RpA Tr H xs ds) (hT : Tabs T H) (Iv : Nat → L2.St → Prop) (h0 : Iv 0 σ) (step : TurnD T g tb D H ds Iv) (last : ∀ σ' H', Iv ds.length σ' → ExtN H H' → Tabs T H' → D.nx σ' H') :
    ∃ W : Nat → Nat → L2.St → Hp → Prop, (∃ m, W 0 m σ H) ∧ ∀ i m σ H, W i m σ H →
      ((Itl K A).stop i H ∧ D.nx σ H) ∨ ((Itl K A).go i H ∧ ∃ N : L2.St → Hp → Prop, (∀ σ' H', N σ' H' → ∃ m', m' < m ∧ W (i + 1) m' σ' H') ∧ ∀ x H', (Itl K A).yld i H x H' → g x σ H' fun σ2 H2 => tb { D with nx := N, ct := N, bk := D.nx } σ2 H2) := by
  refine for_list (K := K) (a := A) (xs := xs) (fun i σ' H' => Iv i σ' ∧ ExtN H H' ∧ Tabs T H') ⟨h0, ExtN.refl _, hT⟩ (fun i σ' H' _ ⟨_, x5, _⟩ => sqL_of (x5 _ _ hA fun _ z => nomatch z)) ?_ ?_
  · rintro i x σ' H' hx ⟨iv, x5, t5⟩
    obtain ⟨d, hd, rx⟩ := ra.getV hx
    exact step i d x σ' H' _ hd iv x5 t5 (rx.ext x5) fun σ3 H3 i3 x3 t3 => ⟨i3, x5.trans x3, t3⟩
  · rintro σ' H' ⟨iv, x5, t5⟩
    exact last σ' H' (by rw [← ra.length]; exact iv) x5 t5
/-- for x in [..]: tb -/
theorem for_te {e : EX} {r : Rs} (R : RpS H σ qs) (h : ev e (rhoD qs) = some r) (hr : r.d = .list ds) (hT : Tabs T H) (Iv : Nat → L2.St → Prop) (h0 : Iv 0 σ) (step : TurnD T g tb D H ds Iv) (last : ∀ σ' H', Iv ds.length σ' → ExtN H H' → Tabs T H' → D.nx σ' H') :
    tFor (tiS K .list (tCons (te K e) tNil)) g tb D σ H := by
  refine te_p R h fun v H1 s1 rv => ?_
  rw [hr] at rv
  cases rv with
  | @lst A xs _ ha _ ra =>
  have x1 : ExtN H H1 := ExtN.of s1
  exact ⟨A, rfl, .inl ⟨⟨_, sqL_of ha⟩, for_rows ha ra (hT.ext s1) Iv h0 (fun i d x σ' H' N hd iv x2 t2 rx hN => step i d x σ' H' N hd iv (x1.trans x2) t2 rx hN) fun σ' H' iv x2 t2 => last σ' H' iv (x1.trans x2) t2⟩⟩
/-- for x in f(..): tb -/
theorem for_call {es : EXs} {ps : List PB} {Ds : List PyData} {fn : FnZ} {b : Bool} (R : RpS H σ qs) (h : evs es (rhoD qs) = some ps) (hp : ps.map (·.1) = Ds) (hf : fn Ds = some (.list ds, b)) (hT : Tabs T H) (Iv : Nat → L2.St → Prop) (h0 : Iv 0 σ) (step : TurnD T g tb D H ds Iv)
    (last : ∀ σ' H', Iv ds.length σ' → ExtN H H' → Tabs T H' → D.nx σ' H') : tFor (tiS K .list (tCons (tCall (spZ fn) [] E0 (tas K es)) tNil)) g tb D σ H := by
  refine tas_p R h fun vs H1 s1 r => ?_
  rw [hp] at r
  refine spZ_p (by rw [List.append_nil]; exact r) hf fun v H2 s2 rv => ?_
  cases rv with
  | @lst A xs _ ha _ ra =>
  have x1 : ExtN H H2 := ExtN.of (s1.trans s2)
  exact ⟨A, rfl, .inl ⟨⟨_, sqL_of ha⟩, for_rows ha ra (hT.ext (s1.trans s2)) Iv h0 (fun i d x σ' H' N hd iv x2 t2 rx hN => step i d x σ' H' N hd iv (x1.trans x2) t2 rx hN) fun σ' H' iv x2 t2 => last σ' H' iv (x1.trans x2) t2⟩⟩
/-- x, y = a pair -/
theorem tup2_go {x : V} {d1 d2 : PyData} {i j : Nat} {Q : L2.St → Hp → Prop} (rx : Rp Tr H x (.tuple [d1, d2])) (k : ∀ y1 y2, Rp Tr H y1 d1 → Rp Tr H y2 d2 → Q ((σ.set i (some y1)).set j (some y2)) H) : gTup K 2 (gCons (gName i) (gCons (gName j) gNil)) x σ H Q := by
  cases rx with
  | @tup t ys _ ht ry =>
  cases ry with
  | cons r1 ry =>
  cases ry with
  | cons r2 ry =>
  cases ry
  exact ⟨t, _, rfl, sqT_of ht, rfl, _, _, rfl, _, _, rfl, rfl, k _ _ r1 r2⟩
end
end Un

set_option maxRecDepth 100000
set_option maxHeartbeats 4000000
namespace Un
open PySem PySem.Spec PyProof.Rows L2
/-! ### the end of a law that makes lambdas -/
/-- what the written part says of a def's code object and its table: (name, code, table) -/
structure TabI (q : Program) (K : PySem.W.Frag) (t : PySem.Str × Addr × Addr) : Prop where
  rc : ∃ d, (recsOf q).find? (fun e => e.name == t.1) = some d
  tab : PySem.W.tabIn K t.1 = some (t.2.1, t.2.2)
  hd : PySem.W.codeHdIn K t.2.1 t.2.2 = true
  no : K.lookup t.2.2 = none
theorem walk_ofGT {l : PySem.W.OpenLaw} {n k : Nat} {q : Program} {loose : List Str} {XP : (Str → Option Value) → Heap → Prop} {YP : World → Heap → Prop} {d : DefRec} {K : Params → PySem.W.Frag} {x : Str}
    (hn : l.most = some n) (hn2 : n ≤ sizeLine) (hdf : d.params.defaults = []) (hr : Room k callerA) (hY : ∀ (w : World) (h : Heap), YP w h → (K w.params).In h)
    (F : ∀ (w : World) (mg : Str → Option Value) (fa : Addr) (h : Heap), (K w.params).In h → h.Ns mainGlobals mg → mg d.name = some (.ref fa) → ∃ (fd : FuncData) (ts : List (PySem.Str × Addr × Addr)) (sp : Sp), (∀ t ∈ ts, TabI q (K w.params) t) ∧
      (∀ (s : Shared) (u : Value), BindsTo s fd ⟨[u], []⟩ [(x, u)]) ∧ (∀ (H : Hp) (a : Addr) (ns : List Int), ns.length ≤ n → (∀ t ∈ ts, H t.2.2 = some (.tbl #[])) → SqL (K w.params) H a (ns.map V.int) → sp [.ref a] H (fun v _ => v = .bl true) E0) ∧
      ∀ base : Heap, (K w.params).In base → base.Ns mainGlobals mg → (∀ t ∈ ts, LamX.TabB base mg t.2.1 t.2.2) → FnG l.prog w (K w.params) mg base k fa fd [x] sp) :
    PySem.W.WalkO q loose XP YP l.row.toRowW d [] (fun f vs => PySem.call f vs) := by
  refine Att.attach_call hn hdf ?_
  intro w s0 s1 mg mb fa o pm cd doc a vs ns G Y ho hd hcd hmg hobj hints hlen hgens
  have inK := hY w _ Y
  obtain ⟨fd, ts, sp, hts, hbind, hsp, hF⟩ := F w mg fa _ inK G.T.g hmg
  have hlen2 : ns.length ≤ sizeLine := Nat.le_trans hlen hn2
  have rv := vals_ints hints
  have tabs : ∀ t ∈ ts, PySem.W.CodeHd s1.heap t.2.1 t.2.2 ∧ s1.heap.get? t.2.2 = some { cls := .none, data := .fields #[] } := fun t ht => by
    obtain ⟨dr, hdr⟩ := (hts t ht).rc
    exact PySem.W.tab_of G.T inK hdr (hts t ht).tab
  let isT : Addr → Prop := fun b => ∃ t ∈ ts, t.2.2 = b
  have tabO : ∀ {b : Addr} {ob : Obj}, isT b → s1.heap.get? b = some ob → ob = { cls := .none, data := .fields #[] } := fun {b ob} ⟨t, ht, e⟩ e2 => by
    have := (tabs t ht).2
    rw [e, e2] at this
    exact Option.some.inj this
  have aT : ¬ isT a := fun z => by
    have := tabO z hobj
    cases congrArg Obj.data this
  -- what an abstract heap must give
  have main : ∀ H : Hp, (∀ t ∈ ts, H t.2.2 = some (.tbl #[])) → SqL (K w.params) H a (ns.map V.int) → HOk l.prog w H s1.heap →
      (∀ b, H b = none ∨ isT b ∨ (b = a ∧ (K w.params).lookup a = none ∧ ∃ u, H b = some (.frz { cls := .type "list", data := .seq vs.toArray } u))) →
      codeAny (model l.prog w) callerA (.call (.ref fa) ⟨[.ref a], []⟩) (fun r s' => r = .ok (.ret (.bool true)) ∧ OldK s1.heap s'.heap ∧ s'.os = s1.os ∧ AllBare s'.gens) s1 := by
    intro H hTb hS hok hH
    have free : ∀ {b : Addr} {ob : Obj}, s1.heap.get? b = some ob → (∀ es m, ob.data ≠ .seq es m) → ob.data ≠ .fields #[] → H b = none := by
      intro b ob e1 e2 e3
      rcases hH b with z | z | ⟨rfl, _⟩
      · exact z
      · exact absurd (congrArg Obj.data (tabO z e1)) e3
      · rw [hobj] at e1
        cases e1
        exact absurd rfl (e2 _ _)
    have ns0 : ∀ {b : Addr} {m : Str → Option Value}, s1.heap.Ns b m → (hidT s1.heap H).Ns b m := by
      rintro b m ⟨ob, es, ep, e1, e2, r⟩
      refine ⟨ob, es, ep, hidT_get e1 (free e1 (fun es m z => ?_) fun z => ?_), e2, r⟩
      · rw [e2] at z
        cases z
      · rw [e2] at z
        cases z
    have k0 : (K w.params).In (hidT s1.heap H) := by
      intro b ob e
      refine hidT_get (inK b ob e) ?_
      rcases hH b with z | ⟨t, ht, rfl⟩ | ⟨rfl, z, _⟩
      · exact z
      · rw [(hts t ht).no] at e
        cases e
      · rw [z] at e
        cases e
    have gNot : ∀ {t}, t ∈ ts → mainGlobals ≠ t.2.2 := fun {t} ht z => by
      obtain ⟨ob, es, ep, e1, e2, _⟩ := G.T.g
      rw [z, (tabs t ht).2] at e1
      cases e1
      cases e2
    have TB : ∀ t ∈ ts, LamX.TabB (hidT s1.heap H) mg t.2.1 t.2.2 := fun t ht => by
      refine ⟨PySem.W.codeHd_of_K k0 (hts t ht).hd, ?_, gNot ht⟩
      obtain ⟨bm, ob, b1, b2, b3, b4, b5, b6⟩ := G.T.bmain
      refine ⟨bm, ob, b1, b2, fun z => ?_, fun z => ?_, hidT_get b3 (free b3 (fun es m z => ?_) fun z => ?_), b4, b5, b6⟩
      · obtain ⟨og, es, ep, e1, e2, _⟩ := G.T.g
        rw [z, e1] at b3
        cases b3
        rw [e2] at b6
        cases b6
      · rw [z, (tabs t ht).2] at b3
        cases b3
        cases b6
      · rw [b6] at z
        cases z
      · rw [b6] at z
        cases z
    obtain ⟨mc, l1, l2⟩ := G.T.nolimit
    have env0 : Env0 l.prog w (K w.params) mg (hidT s1.heap H) callerA [] s1 H :=
      ⟨rfl, ⟨k0, ns0 G.T.g, ⟨mb, ns0 G.T.b, G.T.builtins⟩, ⟨mc, ns0 l1, l2⟩⟩, fun b ob e => of_hidT e, Nat.le_of_eq (hidT_size _ _), trivial, fun b hb => (List.not_mem_nil hb).elim, hok, .of_eq hgens⟩
    have run := (hF _ k0 (ns0 G.T.g) TB).run callerA [] s1 H ⟨[.ref a], []⟩ [.ref a] [.ref a] (fun v _ => v = .bl true) rfl hr env0 (hbind s1 (.ref a)) (.cons rfl .nil) (hsp H a ns hlen hTb hS)
    refine codeAny_mono run ?_
    intro r s' h
    match r, h with
    | .error e, h => exact h.elim
    | .ok .next, h => exact h.elim
    | .ok .brk, h => exact h.elim
    | .ok .cont, h => exact h.elim
    | .ok (.ret u), h =>
      obtain ⟨v, H', os, bare, un, hok', rr, rfl⟩ := h
      obtain rfl : u = Value.bool true := rr
      have key : ∀ b ob, ¬ isT b → s1.heap.get? b = some ob → s'.heap.get? b = some ob := by
        intro b ob nb e
        rcases hH b with z | z | ⟨rfl, _, u, z⟩
        · exact un.keep b ob e z (fun t => (List.not_mem_nil t).elim) (fun t => (List.not_mem_nil t).elim)
        · exact absurd z nb
        · have e2 := (hok' b _ (un.frzs b _ u z)).1
          have e1 := (hok b _ z).1
          rw [e] at e1
          cases e1
          exact e2
      have grown : ∀ t ∈ ts, ∃ more : Array Value, s'.heap.get? t.2.2 = some { cls := .none, data := .fields more } := fun t ht => by
        obtain ⟨more, z⟩ := un.tbls t.2.2 #[] (hTb t ht)
        exact ⟨_, hok' t.2.2 _ z⟩
      refine ⟨rfl, ⟨fun b ob e => ?_, fun b ob e => ?_⟩, os, bare⟩
      · by_cases nb : isT b
        · have eo := tabO nb e
          subst eo
          obtain ⟨t, ht, rfl⟩ := nb
          obtain ⟨more, hm⟩ := grown t ht
          refine .inr (.inl ⟨((tabs t ht).1.tab (tabs t ht).2).isCodeTable, rfl, #[], more, rfl, ?_⟩)
          rw [Array.empty_append]
          exact hm
        · exact .inl (key b ob nb e)
      · by_cases nb : isT b
        · obtain ⟨t, ht, rfl⟩ := nb
          obtain ⟨more, hm⟩ := grown t ht
          exact ⟨_, hm⟩
        · exact ⟨ob, key b ob nb e⟩
  have Hof : ∀ P0 : Addr → Option HO, ∃ H : Hp, (∀ b, isT b → H b = some (.tbl #[])) ∧ ∀ b, ¬ isT b → H b = P0 b := fun P0 => by
    classical
    exact ⟨fun b => if isT b then some (.tbl #[]) else P0 b, fun b z => if_pos z, fun b z => if_neg z⟩
  cases hk : (K w.params).lookup a with
  | some ob =>
    have e := inK a ob hk
    rw [hobj] at e
    cases e
    obtain ⟨H, h1, h2⟩ := Hof fun _ => none
    refine main H (fun t ht => h1 _ ⟨t, ht, rfl⟩) ?_ ?_ fun b => ?_
    · exact .inr ⟨_, vs.toArray, _, hk, rfl, rfl, rfl, by rw [List.size_toArray, hints.length]; exact hlen2, by simpa using rv⟩
    · intro b u z
      by_cases nb : isT b
      · rw [h1 b nb] at z
        cases z
        obtain ⟨t, ht, rfl⟩ := nb
        exact (tabs t ht).2
      · rw [h2 b nb] at z
        cases z
    · by_cases nb : isT b
      · exact .inr (.inl nb)
      · exact .inl (h2 b nb)
  | none =>
    obtain ⟨H, h1, h2⟩ := Hof fun b => if b = a then some (.frz { cls := .type "list", data := .seq vs.toArray } (.lst (ns.map V.int))) else none
    have ha : H a = some (.frz { cls := .type "list", data := .seq vs.toArray } (.lst (ns.map V.int))) := (h2 a aT).trans (if_pos rfl)
    refine main H (fun t ht => h1 _ ⟨t, ht, rfl⟩) ?_ ?_ fun b => ?_
    · exact .inl (.inr ⟨_, ha⟩)
    · intro b u z
      by_cases nb : isT b
      · rw [h1 b nb] at z
        cases z
        obtain ⟨t, ht, rfl⟩ := nb
        exact (tabs t ht).2
      · by_cases eb : b = a
        · subst eb
          rw [ha] at z
          cases z
          exact ⟨hobj, by rw [List.length_map]; exact hlen2, vs, _, rv, hobj⟩
        · have z' := (h2 b nb).symm.trans z
          rw [if_neg eb] at z'
          cases z'
    · by_cases nb : isT b
      · exact .inr (.inl nb)
      · by_cases eb : b = a
        · subst eb
          exact .inr (.inr ⟨rfl, hk, _, ha⟩)
        · exact .inl ((h2 b nb).trans (if_neg eb))
/-- a def that makes lambdas, in the written part -/
def DefInC (K : PySem.W.Frag) (x : PySem.Str) (st : Stmt) (c : Addr) : Prop := ∃ (f : Addr) (oc : Value) (od an : Option Addr) (kV doc pm ct : Value) (osl : Array (Option Value)),
  PySem.W.nsIn K mainGlobals x = some (some (.ref f)) ∧ K.lookup f = some ⟨oc, od, .func (PySem.W.fnOf x x (defArgs st) (defBody st) (defScope st) .none kV doc pm an (.ref c) ct), osl⟩ ∧ PySem.W.codeIn K (.ref c) x = true ∧ PySem.W.keepIn K (.ref f) = true
theorem defInC_mk {K : PySem.W.Frag} {x : PySem.Str} {st : Stmt} {f c : Addr} {oc : Value} {od an : Option Addr} {kV doc pm ct : Value} {osl : Array (Option Value)} (a : PySem.W.nsIn K mainGlobals x = some (some (.ref f)))
    (l : K.lookup f = some ⟨oc, od, .func (PySem.W.fnOf x x (defArgs st) (defBody st) (defScope st) .none kV doc pm an (.ref c) ct), osl⟩) (cd : PySem.W.codeIn K (.ref c) x = true) (k : PySem.W.keepIn K (.ref f) = true) : DefInC K x st c := ⟨f, oc, od, an, kV, doc, pm, ct, osl, a, l, cd, k⟩
theorem DefInC.fn {K : PySem.W.Frag} {x : PySem.Str} {st : Stmt} {c : Addr} {h : Heap} {mg : PySem.Str → Option Value} (D : DefInC K x st c) (X : K.In h) (G : h.Ns mainGlobals mg) : ∃ (f : Addr) (fd : FuncData), FunC K x x st f fd c ∧ mg x = some (.ref f) := by
  obtain ⟨f, oc, od, an, kV, doc, pm, ct, osl, a, l, cd, k⟩ := D
  exact ⟨f, _, ⟨⟨oc, od, kV, doc, pm, an, ct, osl, rfl, l, cd⟩, k⟩, PySem.W.mg_of X G a⟩
end Un

set_option maxRecDepth 100000
set_option maxHeartbeats 4000000
namespace Un
open PySem PySem.Spec PyProof.Rows L2
/-! ### what the top has written of a class -/
structure ClsIn (K : PySem.W.Frag) (x : PySem.Str) (C : Addr) : Prop where
  ns : PySem.W.nsIn K mainGlobals x = some (some (.ref C))
  pg : PySem.W.plainGet K C Str.empty = true
  hd : PySem.W.hasDictIn K C = true
  po : PySem.W.plainOver K C = true
  sa : PySem.W.findIn K (.ref C) "__setattr__" = some (some (.builtin "object.__setattr__"))
  mkc : PySem.W.makesIn K C = true
  kc : PySem.W.keepIn K (.ref C) = true
theorem ClsIn.cls {K : PySem.W.Frag} {x : PySem.Str} {C : Addr} (c : ClsIn K x C) : Cls K C := ⟨c.pg, c.hd, c.po, c.sa⟩
def MethIn (K : PySem.W.Frag) (C : Addr) (m q : PySem.Str) (st : Stmt) : Prop := ∃ (f : Addr) (oc : Value) (od an : Option Addr) (kV doc pm cdv ct : Value) (osl : Array (Option Value)),
  PySem.W.findIn K (.ref C) m = some (some (.ref f)) ∧ PySem.W.isFn K (.ref f) = true ∧ K.lookup f = some ⟨oc, od, .func (PySem.W.fnOf m q (defArgs st) (defBody st) (defScope st) .none kV doc pm an cdv ct), osl⟩ ∧ PySem.W.codeIn K cdv q = true ∧ PySem.W.keepIn K (.ref f) = true
theorem methIn_mk {K : PySem.W.Frag} {C : Addr} {m q : PySem.Str} {st : Stmt} {f : Addr} {oc : Value} {od an : Option Addr} {kV doc pm cdv ct : Value} {osl : Array (Option Value)} (a : PySem.W.findIn K (.ref C) m = some (some (.ref f))) (i : PySem.W.isFn K (.ref f) = true)
    (l : K.lookup f = some ⟨oc, od, .func (PySem.W.fnOf m q (defArgs st) (defBody st) (defScope st) .none kV doc pm an cdv ct), osl⟩) (c : PySem.W.codeIn K cdv q = true) (k : PySem.W.keepIn K (.ref f) = true) : MethIn K C m q st := ⟨f, oc, od, an, kV, doc, pm, cdv, ct, osl, a, i, l, c, k⟩
theorem MethIn.fn {K : PySem.W.Frag} {C : Addr} {m q : PySem.Str} {st : Stmt} (D : MethIn K C m q st) : ∃ (f : Addr) (fd : FuncData), Fun K m q st f fd ∧ PySem.W.findIn K (.ref C) m = some (some (.ref f)) ∧ PySem.W.isFn K (.ref f) = true := by
  obtain ⟨f, oc, od, an, kV, doc, pm, cdv, ct, osl, a, i, l, c, k⟩ := D
  exact ⟨f, _, fun_mk (st := st) l c k, a, i⟩
def PropIn (K : PySem.W.Frag) (C : Addr) (m q : PySem.Str) (st : Stmt) : Prop := ∃ (p f : Addr) (rest : List Value) (oc : Value) (od an : Option Addr) (kV doc pm cdv ct : Value) (osl : Array (Option Value)),
  PySem.W.findIn K (.ref C) m = some (some (.ref p)) ∧ PySem.W.specialIn K (.ref p) "__get__" = some (some (.builtin "property.__get__")) ∧ PySem.W.takesIn K (.ref p) = some true ∧ PySem.W.recIn K p "property" = some (.ref f :: rest) ∧
  K.lookup f = some ⟨oc, od, .func (PySem.W.fnOf m q (defArgs st) (defBody st) (defScope st) .none kV doc pm an cdv ct), osl⟩ ∧ PySem.W.codeIn K cdv q = true ∧ PySem.W.keepIn K (.ref f) = true
theorem propIn_mk {K : PySem.W.Frag} {C : Addr} {m q : PySem.Str} {st : Stmt} {p f : Addr} {rest : List Value} {oc : Value} {od an : Option Addr} {kV doc pm cdv ct : Value} {osl : Array (Option Value)} (a : PySem.W.findIn K (.ref C) m = some (some (.ref p)))
    (g : PySem.W.specialIn K (.ref p) "__get__" = some (some (.builtin "property.__get__"))) (t : PySem.W.takesIn K (.ref p) = some true) (r : PySem.W.recIn K p "property" = some (.ref f :: rest))
    (l : K.lookup f = some ⟨oc, od, .func (PySem.W.fnOf m q (defArgs st) (defBody st) (defScope st) .none kV doc pm an cdv ct), osl⟩) (c : PySem.W.codeIn K cdv q = true) (k : PySem.W.keepIn K (.ref f) = true) : PropIn K C m q st := ⟨p, f, rest, oc, od, an, kV, doc, pm, cdv, ct, osl, a, g, t, r, l, c, k⟩
theorem PropIn.fn {K : PySem.W.Frag} {C : Addr} {m q : PySem.Str} {st : Stmt} (D : PropIn K C m q st) : ∃ (p f : Addr) (fd : FuncData), Fun K m q st f fd ∧ PropOf K C m p f := by
  obtain ⟨p, f, rest, oc, od, an, kV, doc, pm, cdv, ct, osl, a, g, t, r, l, c, k⟩ := D
  exact ⟨p, f, _, fun_mk (st := st) l c k, a, g, t, rest, r⟩
end Un

set_option maxRecDepth 100000
set_option maxHeartbeats 4000000
namespace Un
open PySem PySem.Spec PyProof.Rows L2
/-! ### what the written part says of an error class with its own __init__ -/
structure ErrIn (K : PySem.W.Frag) (x q fld : PySem.Str) (st : Stmt) (C : Addr) : Prop where
  ns : PySem.W.nsIn K mainGlobals x = some (some (.ref C))
  ec : ExcC K C
  no : PySem.W.findIn K (.ref C) fld = some none
  me : MethIn K C "__init__" q st
section
variable {K : PySem.W.Frag} {x q fld nm qn : PySem.Str} {st : Stmt} {C N : Addr} {bs bm : List Value} {sn : List PySem.Str} {sub : List Value} {ab : Bool} {col : Option Bool} {dd : Option Addr} {k0 k1 k2 k3 k5 : Option Value}
theorem oexC_mk (l : K.lookup C = some (excClassObj nm qn C N bs bm true sn sub ab col dd k0 k1 k2 k3 k5 "ValueError.__new__")) (rv : PySem.HandSPX.refsVE bm = true) (sa : PySem.W.findIn K (.ref C) "__setattr__" = some (some (.builtin "object.__setattr__")))
    (ex : PySem.W.subIn K (.ref C) (.type "BaseException") = some true) (ty : PySem.W.typeIn K (.ref C) = some (.type "type")) (kc : PySem.W.keepIn K (.ref C) = true) : OexC K C := ⟨⟨_, _, _, _, _, _, _, _, _, _, _, _, _, _, _, l, rv⟩, sa, ex, ty, kc⟩
theorem oexL_mk (l : K.lookup C = some (excClassObj nm qn C N bs PySem.LkX.lkT true sn sub ab col dd k0 k1 k2 k3 k5 "LookupError.__new__")) (sa : PySem.W.findIn K (.ref C) "__setattr__" = some (some (.builtin "object.__setattr__")))
    (ex : PySem.W.subIn K (.ref C) (.type "BaseException") = some true) (ty : PySem.W.typeIn K (.ref C) = some (.type "type")) (kc : PySem.W.keepIn K (.ref C) = true) : OexL K C := ⟨⟨_, _, _, _, _, _, _, _, _, _, _, _, _, _, l⟩, sa, ex, ty, kc⟩
theorem errIn_mk (ns : PySem.W.nsIn K mainGlobals x = some (some (.ref C)))
    (hg : PySem.W.findIn K (.ref C) "__getattribute__" = some (some (.builtin "BaseException.__getattribute__"))) (hk : PySem.W.findIn K (.ref C) "__getattr__" = some none)
    (hs : PySem.W.subIn K (.ref C) (.type "BaseException") = some true) (hd : PySem.W.hasDictIn K C = true) (ha : PySem.W.findIn K (.ref C) "__class__" = some (some (.builtin "object.__class__")))
    (hn : PySem.W.specialIn K (.builtin "object.__class__") "__get__" = some (some (.builtin "getset_descriptor.__get__"))) (ht : PySem.W.takesIn K (.builtin "object.__class__") = some true) (hm : PySem.W.mroIn K C (.type "object") = some true)
    (no : PySem.W.findIn K (.ref C) fld = some none) (me : MethIn K C "__init__" q st) : ErrIn K x q fld st C := ⟨ns, ⟨hg, hk, hs, hd, ha, hn, ht, hm⟩, no, me⟩
end
/-- a def's table, found step by step -/
theorem tabI_mk {q : Program} {K : PySem.W.Frag} {x : PySem.Str} {f c P : Addr} {oc oc2 : Value} {od od2 : Option Addr} {fd : FuncData} {os os2 : Array (Option Value)} {vs : Array Value} (a : PySem.W.nsIn K mainGlobals x = some (some (.ref f))) (l : K.lookup f = some ⟨oc, od, .func fd, os⟩)
    (hc : fd.code = .ref c) (l2 : K.lookup c = some ⟨oc2, od2, .fields vs, os2⟩) (v : (vs[11]? : Option Value) = some (.ref P)) (rc : ∃ d, (recsOf q).find? (fun e => e.name == x) = some d) (hd : PySem.W.codeHdIn K c P = true) (no : K.lookup P = none) : TabI q K (x, c, P) := by
  refine ⟨rc, ?_, hd, no⟩
  show PySem.W.tabIn K x = _
  unfold PySem.W.tabIn
  rw [a]
  simp only [l, hc, l2, v]
end Un

set_option maxRecDepth 100000
set_option maxHeartbeats 4000000
namespace Un
open PySem PySem.Spec PyProof.Rows L2 LamX
section
variable {P : Program} {w : World} {K : PySem.W.Frag} {mg : PySem.Str → Option Value} {base : Heap} {x qual : PySem.Str} {st : Stmt} {f : Addr} {fd : FuncData}
/-- a def of the layer whose text calls no repr: under any guards -/
theorem fnOk_Z {N ps : List PySem.Str} {k : Nat} (F : Fun K x qual st f fd) (S : FnScope N ps (defScope st)) (b : STs) (hn : ps.length ≤ N.length)
    (body : ∀ (cdv : Value) (A : Around) (outer : List Env) (s : Shared) (H : Hp) (E : XK), Room k (A.deeper (envOfC qual (defScope st) s.heap.objs.size f cdv)) →
      PSs (cxOf CX0 P w K mg base N qual (defScope st) f cdv A outer s H E).nox (defBody st) (tss K b)) : FnOk P w K mg base CX0 (k + 1) f fd ps (spZ (runZ ps.length N.length b)) := by
  refine F.ok S (fun vs H Q E h => ?_) (fun cdv A outer s H vs Q E hr h => ⟨tss K b, body cdv A outer s H E hr, runZ_ok hn h⟩)
  obtain ⟨Z, G, ds, r, e, _, _, rs, _⟩ := h
  rw [rs.length]
  exact runZ_len e
/-- f(lambda: ..), the lambda without names of its own -/
theorem call_lam {T : List (Addr × PySem.Str)} {D : LamD} {cs : List (PySem.Str × Addr)} {spK : Sp} {σ : L2.St} {H : Hp} {Q : VK} (hT : Tabs T H) (k : ∀ (f : Addr) (H1 : Hp), ExtN H H1 → Tabs T H1 → Made cs H1 f D → spK [.ref f] H1 Q E0) :
    tCall spK [] E0 (tCons (tLamV T cs D.q D.ps D.b D.sc) tNil) σ H Q := by
  refine ⟨hT, fun f1 e1 H1 x1 t1 n1 o1 => ?_⟩
  have s2 : Same H1 (upd H1 f1 (CloX f1 D.q D.ps D.b D.sc (cloFrom cs D.sc.names []) e1)) := same_upd n1
  refine k f1 _ (x1.trans (ExtN.of s2)) (t1.ext s2) ⟨e1, upd_same, s2 _ _ o1⟩
/-- a lambda without names of its own -/
theorem made_none {D : LamD} {cs : List (PySem.Str × Addr)} {H : Hp} {f : Addr} (L : LamOk D) (e : D.N = []) (m : Made cs H f D) : CloIs H f D [] := by
  obtain ⟨c', h1, h2⟩ := m
  have no : ∀ x c, (cloFrom cs D.sc.names []).lookup x = some c → False := fun x c z => by
    have := L.free _ (clo_look z).1 rfl
    rw [e] at this
    exact List.not_mem_nil this
  refine ⟨_, c', h1, h2, fun x y c e1 e2 => (no x c e1).elim, fun x c z => (no x c z).elim, by rw [e]; rfl, fun i x v e1 e2 => ?_⟩
  rw [e] at e1
  simp at e1
end
def callArg : Expr → Expr
  | .Call _ (e :: _) _ _ => e
  | _ => .Constant .none 0 ⟨0, 0, 0, 0⟩
/-- if f(lambda: ..) ..: | return f(lambda: ..) .. -/
def lamIn2 : Stmt → Expr
  | .If (.Compare l _ _ _) _ _ _ => callArg l
  | .Return (some (.Compare l _ _ _)) _ => callArg l
  | s => lamIn s
end Un

set_option maxRecDepth 100000
set_option maxHeartbeats 8000000
namespace Un
open PySem PySem.Spec PyProof.Rows L2
section
variable {P : Program} {w : World} {K : PySem.W.Frag} {mg : Str → Option Value} {base : Heap}
theorem ok_names_and_joining {f : Addr} {fd : FuncData} (F : Fun K "names_and_joining" "names_and_joining" s_names_and_joining f fd) (T : Txt mg)  : FnOk P w K mg base CX0 1 f fd ["cells", "web"] (spZ fn_names_and_joining) :=
  fnOk_Z F sc_names_and_joining a_names_and_joining (by decide) fun cdv A outer s H E hr => (pss_cons (ps_set (i := 2) sc_names_and_joining.nd rfl (by first | exact Or.inl rfl | exact Or.inr rfl) (pe_listRg rfl (by rfl) T.n_list (prg_1 (by rfl) T.n_range (pe_op op_addZ (pv 0) pe_int))))
    (pss_cons (ps_set (i := 3) sc_names_and_joining.nd rfl (by first | exact Or.inl rfl | exact Or.inr rfl) (pe_lst pa_nil))
    (pss_cons (ps_for PassesOwn.never rfl (pi_any (pv 1)) (pg_tup rfl (pgs_cons (pg_name (i := 4) sc_names_and_joining.nd rfl (by first | exact Or.inl rfl | exact Or.inr rfl)) (pgs_cons (pg_name (i := 5) sc_names_and_joining.nd rfl (by first | exact Or.inl rfl | exact Or.inr rfl)) pgs_nil))) (pss_one (ps_if (pt_cmpR (op_neZ hr.units) (pe_ix ix_any (pv 2) (pv 4) (fun _ _ => rfl)) (pe_ix ix_any (pv 2) (pv 5) (fun _ _ => rfl)) (by rfl)) (pss_cons (ps_set (i := 6) sc_names_and_joining.nd rfl (by first | exact Or.inl rfl | exact Or.inr rfl) (pe_callB (call_min2 rfl) (by rfl) T.n_min (by decide +kernel) (pa_cons (pe_ix ix_any (pv 2) (pv 4) (fun _ _ => rfl)) (pa_cons (pe_ix ix_any (pv 2) (pv 5) (fun _ _ => rfl)) pa_nil))))
        (pss_cons (ps_set (i := 7) sc_names_and_joining.nd rfl (by first | exact Or.inl rfl | exact Or.inr rfl) (pe_callB (call_max2 rfl) (by rfl) T.n_max (by decide +kernel) (pa_cons (pe_ix ix_any (pv 2) (pv 4) (fun _ _ => rfl)) (pa_cons (pe_ix ix_any (pv 2) (pv 5) (fun _ _ => rfl)) pa_nil))))
        (pss_cons (ps_setLc (i := 2) (own := [("name", 8)]) rfl sc_names_and_joining.nd rfl rfl (sw_true rfl rfl rfl (by decide +kernel)) (pi_any (pv 2)) (blkOk_by (by kernel_rfl)) (fun _ _ _ _ _ => (pg_name (i := 8) sc_names_and_joining.nd rfl (by first | exact Or.inl rfl | exact Or.inr rfl))) (fun _ _ _ _ _ => pts_nil) (fun _ _ _ _ _ => (pe_ifExp (pt_cmpR (op_eqZ hr.units) (pv 8) (pv 7) (by rfl)) (pv 6) (pv 8))))
        (pss_one (ps_expr (pe_bm PySem.F.plainAttrs_list PySem.F.slot_list_append PySem.F.type_list_append mt_append (pv 3) (pa_cons (pe_tup (pa_cons (pv 4) (pa_cons (pv 5) pa_nil))) pa_nil))))))) pss_nil)))
    (pss_one (ps_ret (pe_tup (pa_cons (pv 2) (pa_cons (pv 3) pa_nil))))))))
theorem ok_pieces_of {f : Addr} {fd : FuncData} (F : Fun K "pieces_of" "pieces_of" s_pieces_of f fd) (T : Txt mg) (c_names_and_joining : C8.Cal P w K mg base 1 "names_and_joining" (spZ fn_names_and_joining) []) : FnOk P w K mg base CX0 2 f fd ["cells", "web"] (spZ fn_pieces_of) :=
  fnOk_Z F sc_pieces_of a_pieces_of (by decide) fun cdv A outer s H E hr => (pss_cons (ps_asg (C8.pe_c c_names_and_joining hr (by decide) (by rfl) (pa_cons (pv 0) (pa_cons (pv 1) pa_nil))) (pg_tup rfl (pgs_cons (pg_name (i := 2) sc_pieces_of.nd rfl (by first | exact Or.inl rfl | exact Or.inr rfl)) (pgs_cons (pg_name (i := 3) sc_pieces_of.nd rfl (by first | exact Or.inl rfl | exact Or.inr rfl)) pgs_nil))))
    (pss_cons (ps_setLc (i := 4) (own := [("cell", 5)]) rfl sc_pieces_of.nd rfl rfl (sw_true rfl rfl rfl (by decide +kernel)) (pi_range2 (by rfl) T.n_range (pa_cons pe_int (pa_cons (pe_op op_addZ (pv 0) pe_int) pa_nil))) (blkOk_by (by kernel_rfl)) (fun _ _ _ _ _ => (pg_name (i := 5) sc_pieces_of.nd rfl (by first | exact Or.inl rfl | exact Or.inr rfl))) (fun _ _ _ _ _ => (pts_one (pt_cmpR (op_eqZ hr.units) (pe_ix ix_any (pv 2) (pv 5) (fun _ _ => rfl)) (pv 5) (by rfl)))) (fun _ _ _ _ _ => (pv 5)))
    (pss_one (ps_ret (pe_lc (own := [("least", 6)]) rfl sc_pieces_of.nd (pi_any (pv 4)) (blkOk_by (by kernel_rfl)) (fun _ _ _ _ _ => (pg_name (i := 6) sc_pieces_of.nd rfl (by first | exact Or.inl rfl | exact Or.inr rfl))) (fun _ _ _ _ _ => pts_nil) (fun _ _ _ _ _ => (pe_lc (own := [("cell", 5)]) rfl sc_pieces_of.nd (pi_range2 (by rfl) T.n_range (pa_cons pe_int (pa_cons (pe_op op_addZ (pv 0) pe_int) pa_nil))) (blkOk_by (by kernel_rfl)) (fun _ _ _ _ _ => (pg_name (i := 5) sc_pieces_of.nd rfl (by first | exact Or.inl rfl | exact Or.inr rfl))) (fun _ _ _ _ _ => (pts_one (pt_cmpR (op_eqZ hr.units) (pe_ix ix_any (pv 2) (pv 5) (fun _ _ => rfl)) (pv 6) (by rfl)))) (fun _ _ _ _ _ => (pv 5)))))))))
end
end Un

set_option maxRecDepth 100000
set_option maxHeartbeats 8000000
namespace Un
open PySem PySem.Spec PyProof.Rows L2
section
variable {P : Program} {w : World} {K : PySem.W.Frag} {mg : Str → Option Value} {base : Heap}
/-- what a function of cells and a web refuses -/
def askW (c w : PyData) : Option (ErK × PyData) :=
  if cellsBad 1 16 c = true then some (.cells, c) else match c with
  | .int n => (webBad n w).map fun o => (.web, idxD o)
  | _ => none
def spRefW (Ea : ErK → Addr) : Sp := fun vs H _ E => ∃ (v1 v2 : V) (c ww : PyData) (kd : ErK) (pd : PyData), vs = [v1, v2] ∧ Rp Tr H v1 c ∧ Rp Tr H v2 ww ∧ shortD ww ∧ askW c ww = some (kd, pd) ∧ RefE Ea kd pd H E
theorem refW_go {Ea : ErK → Addr} {v1 v2 : V} {c ww : PyData} {kd : ErK} {pd : PyData} {σ : L2.St} {H : Hp} {E : XK} {N : Ends} (r1 : Rp Tr H v1 c) (r2 : Rp Tr H v2 ww) (hs : shortD ww) (ha : askW c ww = some (kd, pd)) (x : RefE Ea kd pd H E) (h0 : σ[0]? = some (some v1)) (h1 : σ[1]? = some (some v2)) :
    tSeq (tDrop (tCall (spChkCellsX (Ea .cells)) [.int 1, .int 16] E (tCons (tVar 0) tNil))) (tSeq (tDrop (tCall (spChkWebX (Ea .web)) [] E (tCons (tVar 0) (tCons (tVar 1) tNil)))) tNever) N σ H := by
  unfold askW at ha
  refine ⟨_, h0, v1, c, rfl, r1, fun hb => ?_, fun hb => ?_⟩
  · rw [if_neg (by rw [hb]; decide)] at ha
    obtain ⟨n, rfl⟩ := int_of_bad hb
    cases r1
    dsimp only at ha
    refine ⟨_, h0, _, h1, n, v2, ww, rfl, r2, hs, fun hw H' s1 => ?_, fun o hw H' s1 => ?_⟩
    · rw [hw] at ha
      cases ha
    · rw [hw] at ha
      cases ha
      exact x (idxV o) H' s1 (idx_rp o)
  · rw [if_pos hb] at ha
    cases ha
    exact x v1 H (Same.refl H) r1
theorem okx_pieces {f : Addr} {fd : FuncData} {Ea : ErK → Addr} (F : Fun K "pieces" "pieces" s_pieces f fd) (c1 : CalX P w K mg base 4 "check_cells" (spChkCellsX (Ea .cells)) [.int 1, .int 16]) (c2 : CalX P w K mg base 5 "check_web" (spChkWebX (Ea .web)) []) : FnOk P w K mg base (L2.CX P w) 6 f fd ["cells", "web"] (spRefW Ea) := by
  refine F.okX sc_pieces (fun vs H Q E h => ?_) (fun cdv A outer s H vs Q E hr h => ?_)
  · obtain ⟨v1, v2, c, ww, kd, pd, rfl, _⟩ := h
    rfl
  · obtain ⟨v1, v2, c, ww, kd, pd, rfl, r1, r2, hs, ha, x⟩ := h
    refine ⟨_, pss_cons (ps_expr (pe_cX (takes_of rfl rfl rfl rfl) c1 hr (by decide) (by rfl) (pa_cons (pv 0) pa_nil))) (pss_cons (ps_expr (pe_cX (takes_of rfl rfl rfl rfl) c2 hr (by decide) (by rfl) (pa_cons (pv 0) (pa_cons (pv 1) pa_nil)))) pss_never), ?_⟩
    exact refW_go r1 r2 hs ha x rfl rfl
theorem okx_is_tree {f : Addr} {fd : FuncData} {Ea : ErK → Addr} (F : Fun K "is_tree" "is_tree" s_is_tree f fd) (c1 : CalX P w K mg base 4 "check_cells" (spChkCellsX (Ea .cells)) [.int 1, .int 16]) (c2 : CalX P w K mg base 5 "check_web" (spChkWebX (Ea .web)) []) : FnOk P w K mg base (L2.CX P w) 6 f fd ["cells", "web"] (spRefW Ea) := by
  refine F.okX sc_is_tree (fun vs H Q E h => ?_) (fun cdv A outer s H vs Q E hr h => ?_)
  · obtain ⟨v1, v2, c, ww, kd, pd, rfl, _⟩ := h
    rfl
  · obtain ⟨v1, v2, c, ww, kd, pd, rfl, r1, r2, hs, ha, x⟩ := h
    refine ⟨_, pss_cons (ps_expr (pe_cX (takes_of rfl rfl rfl rfl) c1 hr (by decide) (by rfl) (pa_cons (pv 0) pa_nil))) (pss_cons (ps_expr (pe_cX (takes_of rfl rfl rfl rfl) c2 hr (by decide) (by rfl) (pa_cons (pv 0) (pa_cons (pv 1) pa_nil)))) pss_never), ?_⟩
    exact refW_go r1 r2 hs ha x rfl rfl
theorem okx_round_bounds {f : Addr} {fd : FuncData} {Ea : ErK → Addr} (F : Fun K "round_bounds" "round_bounds" s_round_bounds f fd) (c1 : CalX P w K mg base 4 "check_cells" (spChkCellsX (Ea .cells)) [.int 1, .int 16]) (c2 : CalX P w K mg base 5 "check_web" (spChkWebX (Ea .web)) []) : FnOk P w K mg base (L2.CX P w) 6 f fd ["cells", "web"] (spRefW Ea) := by
  refine F.okX sc_round_bounds (fun vs H Q E h => ?_) (fun cdv A outer s H vs Q E hr h => ?_)
  · obtain ⟨v1, v2, c, ww, kd, pd, rfl, _⟩ := h
    rfl
  · obtain ⟨v1, v2, c, ww, kd, pd, rfl, r1, r2, hs, ha, x⟩ := h
    refine ⟨_, pss_cons (ps_expr (pe_cX (takes_of rfl rfl rfl rfl) c1 hr (by decide) (by rfl) (pa_cons (pv 0) pa_nil))) (pss_cons (ps_expr (pe_cX (takes_of rfl rfl rfl rfl) c2 hr (by decide) (by rfl) (pa_cons (pv 0) (pa_cons (pv 1) pa_nil)))) pss_never), ?_⟩
    exact refW_go r1 r2 hs ha x rfl rfl
theorem okx_bridges {f : Addr} {fd : FuncData} {Ea : ErK → Addr} (F : Fun K "bridges" "bridges" s_bridges f fd) (c1 : CalX P w K mg base 4 "check_cells" (spChkCellsX (Ea .cells)) [.int 1, .int 16]) (c2 : CalX P w K mg base 5 "check_web" (spChkWebX (Ea .web)) []) : FnOk P w K mg base (L2.CX P w) 6 f fd ["cells", "web"] (spRefW Ea) := by
  refine F.okX sc_bridges (fun vs H Q E h => ?_) (fun cdv A outer s H vs Q E hr h => ?_)
  · obtain ⟨v1, v2, c, ww, kd, pd, rfl, _⟩ := h
    rfl
  · obtain ⟨v1, v2, c, ww, kd, pd, rfl, r1, r2, hs, ha, x⟩ := h
    refine ⟨_, pss_cons (ps_expr (pe_cX (takes_of rfl rfl rfl rfl) c1 hr (by decide) (by rfl) (pa_cons (pv 0) pa_nil))) (pss_cons (ps_expr (pe_cX (takes_of rfl rfl rfl rfl) c2 hr (by decide) (by rfl) (pa_cons (pv 0) (pa_cons (pv 1) pa_nil)))) pss_never), ?_⟩
    exact refW_go r1 r2 hs ha x rfl rfl
/-- pieces where nothing is refused -/
def spPcOk : Sp := fun vs H Q _ => ∃ (n : Int) (v2 : V) (ww : PyData) (r : PB), vs = [.int n, v2] ∧ Rp Tr H v2 ww ∧ shortD ww ∧ askW (.int n) ww = none ∧ fn_pieces_of [.int n, ww] = some r ∧ ∀ v H', Same H H' → Q v H'
theorem okn_pieces {f : Addr} {fd : FuncData} {Ea : ErK → Addr} {kp : Nat} (hk : kp ≤ 5) (F : Fun K "pieces" "pieces" s_pieces f fd) (c1 : CalX P w K mg base 4 "check_cells" (spChkCellsX (Ea .cells)) [.int 1, .int 16]) (c2 : CalX P w K mg base 5 "check_web" (spChkWebX (Ea .web)) [])
    (c3 : C8.Cal P w K mg base kp "pieces_of" (spZ fn_pieces_of) []) : FnOk P w K mg base (L2.CX P w) 6 f fd ["cells", "web"] spPcOk := by
  refine F.okX sc_pieces (fun vs H Q E h => ?_) (fun cdv A outer s H vs Q E hr h => ?_)
  · obtain ⟨n, v2, ww, r, rfl, _⟩ := h
    rfl
  · obtain ⟨n, v2, ww, r, rfl, r2, hs, ha, hf, q⟩ := h
    refine ⟨_, pss_cons (ps_expr (pe_cX (takes_of rfl rfl rfl rfl) c1 hr (by decide) (by rfl) (pa_cons (pv 0) pa_nil))) (pss_cons (ps_expr (pe_cX (takes_of rfl rfl rfl rfl) c2 hr (by decide) (by rfl) (pa_cons (pv 0) (pa_cons (pv 1) pa_nil)))) (pss_one (ps_ret (C8.pe_c c3 hr hk (by rfl) (pa_cons (pv 0) (pa_cons (pv 1) pa_nil)))))), ?_⟩
    unfold askW at ha
    refine ⟨_, rfl, .int n, .int n, rfl, .int n, fun hb => ?_, fun hb => ?_⟩
    · rw [if_neg (by rw [hb]; decide)] at ha
      dsimp only at ha
      refine ⟨_, rfl, _, rfl, n, v2, ww, rfl, r2, hs, fun hw H' s1 => ?_, fun o hw H' s1 => ?_⟩
      · refine ⟨_, rfl, _, rfl, spZ_p (E := E0) (.cons (.int n) (.cons (r2.same s1) .nil)) hf fun v H2 s2 _ => q v H2 (s1.trans s2)⟩
      · rw [hw] at ha
        cases ha
    · rw [if_pos hb] at ha
      cases ha
end
end Un

set_option maxRecDepth 100000
set_option maxHeartbeats 8000000
namespace Un
open PySem PySem.Spec PyProof.Rows L2
def ErK.nm : ErK → PySem.Str
  | .cells => "cells"
  | .web => "web"
  | .log => "log"
  | .ends => "ends"
  | .cell => "cell"
  | .number => "number"
/-- what the law's own word needs of the classes -/
def kUse : ErK → Bool
  | .cells => true
  | .web => true
  | _ => false
structure KpT (K : PySem.W.Frag) (mg : Str → Option Value) (Ea : ErK → Addr) : Prop where
  gc : mg "InvalidCells" = some (.ref (Ea .cells))
  gw : mg "InvalidWeb" = some (.ref (Ea .web))
  ec : ∀ kd, kUse kd = true → ExcC K (Ea kd)
  nof : ∀ kd, kUse kd = true → PySem.W.findIn K (.ref (Ea kd)) kd.fld = some none
  exm : ∀ kd, kUse kd = true → PySem.W.exmAny K (.ref (Ea kd)) [.ref (Ea .cells), .ref (Ea .web)] = some true
  isV : ∀ kd, kUse kd = true → PySem.W.kitOne K (.ref (Ea kd)) (.type "ValueError") = some true
  isC : ∀ kd, kUse kd = true → PySem.W.kitOne K (.ref (Ea kd)) (.ref (Ea .cells)) = some (decide (kd = .cells))
def keptD (kd : ErK) (pd : PyData) : PyData := .list [.str kd.nm, pd]
/-- what _law_kept tells of a lambda: of the error that it lets out, or that there was none -/
def keptE (Ea : ErK → Addr) (Q : VK) : XK := fun cls d H' => ∃ (kd : ErK) (v : V) (pd : PyData) (dd : Addr), kUse kd = true ∧ cls = .ref (Ea kd) ∧ d = some dd ∧ H' dd = some (.xd [(kd.fld, v)]) ∧ Rp Tr H' v pd ∧ ReprOk (keptD kd pd) ∧ ∀ H2, Same H' H2 → Q (.str (keptD kd pd).shown) H2
def spKept (P : Program) (w : World) (K : PySem.W.Frag) (mg : Str → Option Value) (base : Heap) (k : Nat) (Ea : ErK → Addr) : Sp := fun vs H Q _ => ∃ (f : Addr) (D : LamD) (sp : Sp) (ws : List V), vs = [.ref f] ∧ FnL P w K mg base k D sp ∧ CloIs H f D ws ∧
  ∀ (Q1 : VK) (E1 : XK), (∀ v H', (∀ H2, Same H' H2 → Q (.str "told") H2) → Q1 v H') → (∀ cls d H', keptE Ea Q cls d H' → E1 cls d H') → sp ws H Q1 E1
section
variable {P : Program} {w : World} {K : PySem.W.Frag} {mg : Str → Option Value} {base : Heap}
theorem okg_l_kept {f : Addr} {fd : FuncData} {k : Nat} {Ea : ErK → Addr} (F : Fun K "_law_kept" "_law_kept" s_l_kept f fd) (T : Txt mg) (TE : TxE mg) (TK : KpT K mg Ea) : FnG P w K mg base (k + 2) f fd ["_law_ask"] (spKept P w K mg base k Ea) := by
  refine fnG_ok F sc_l_kept (fun vs H Q E h => ?_) (fun cdv A outer s H vs Q hg hr h => ?_)
  · obtain ⟨f, D, sp, ws, rfl, _⟩ := h
    rfl
  · obtain ⟨fa, D, sp, ws, rfl, hF, hc, q⟩ := h
    have nC : ∀ {X : Cx}, X.mg = mg → Gl X "InvalidCells" → Names X "InvalidCells" (.ref (Ea .cells)) := fun e g => ⟨g, by decide, .inl (by rw [e]; exact TK.gc)⟩
    have nW : ∀ {X : Cx}, X.mg = mg → Gl X "InvalidWeb" → Names X "InvalidWeb" (.ref (Ea .web)) := fun e g => ⟨g, by decide, .inl (by rw [e]; exact TK.gw)⟩
    refine ⟨_, pss_cons (ps_set (i := 1) sc_l_kept.nd rfl (by first | exact Or.inl rfl | exact Or.inr rfl) pe_non)
      (pss_cons (ps_try_keep (i := 2) rfl rfl rfl sc_l_kept.nd rfl rfl (fun W pn xe tk po => pss_one (ps_expr (pe_cloP (P := P) (w := w) (K := K) (mg := mg) (base := base) (k := k) (i := 0) rfl rfl rfl rfl rfl tk (hr.mono (by omega)) rfl (by first | exact Or.inl rfl | exact Or.inr (Or.inl rfl) | exact Or.inr (Or.inr rfl)))))
        (.cons (.cons (nC rfl (by rfl)) (.cons (nW rfl (by rfl)) .nil)) (by show 2 ≤ 100; decide) (fun a oe cls d pn hz hd => pss_one (ps_set (i := 1) sc_l_kept.nd rfl (by first | exact Or.inl rfl | exact Or.inr rfl) (pv 2))) .nil))
      (pss_cons (ps_if (pt_cmpR op_isN (pv 1) pe_non (by rfl)) (pss_one (ps_ret pe_str)) pss_nil)
      (pss_cons (ps_if (pt_not (pt_val (pe_callB call_isK (by rfl) T.n_isinstance (by decide +kernel) (pa_cons (pv 1) (pa_cons (pe_bltn (v := .ty "ValueError") (by rfl) TE.n_ValueError (by decide +kernel) rfl) pa_nil))))) (pss_one (ps_ret pe_str)) pss_nil)
      (pss_one (ps_ret (pe_ifExp (pt_val (pe_callB call_isK (by rfl) T.n_isinstance (by decide +kernel) (pa_cons (pv 1) (pa_cons (C8.pe_gc (v := .ref (Ea .cells)) (by rfl) ⟨_, TK.gc, rfl⟩) pa_nil))))
          (pe_callB (call_reprD hg hr.units) (by rfl) T.n_repr (by decide +kernel) (pa_cons (pe_lst (pa_cons pe_str (pa_cons (pe_xk (pv 1)) pa_nil))) pa_nil))
          (pe_callB (call_reprD hg hr.units) (by rfl) T.n_repr (by decide +kernel) (pa_cons (pe_lst (pa_cons pe_str (pa_cons (pe_xk (pv 1)) pa_nil))) pa_nil)))))))), ?_⟩
    refine ⟨fa, D, ws, sp, rfl, hF, hc, q _ _ (fun v H' hk => ?_) fun cls d H' hk => ?_⟩
    · refine ⟨_, rfl, rfl, _, rfl, iteT ?_⟩
      exact hk H' (Same.refl H')
    · obtain ⟨kd, v, pd, dd, ku, rfl, rfl, hd, rv, rok, hk⟩ := hk
      refine ⟨true, TK.exm kd ku, fun _ a na => ?_, fun z => nomatch z⟩
      have sA : Same H' (upd H' a (exK a (.ref (Ea kd)) (some dd))) := same_upd na
      have hA : (upd H' a (exK a (.ref (Ea kd)) (some dd))) a = some (exK a (.ref (Ea kd)) (some dd)) := upd_same
      have hD := sA _ _ hd
      have rv2 := rv.same sA
      have hk2 : ∀ H2, Same (upd H' a (exK a (.ref (Ea kd)) (some dd))) H2 → Q (.str (keptD kd pd).shown) H2 := fun H2 s2 => hk H2 (sA.trans s2)
      refine ⟨_, rfl, gName_go (kEnds_go ?_)⟩
      show tSeq _ _ _ [some (.ref fa), some (.ref a), none] (upd H' a (exK a (.ref (Ea kd)) (some dd)))
      generalize upd H' a (exK a (.ref (Ea kd)) (some dd)) = H2 at sA hA hD rv2 hk2 ⊢
      have rep : ∀ nm : PySem.Str, nm = kd.nm → ∀ p, H2 p = none → rReprD K [.ref p] (upd H2 p (.lst [.str nm, v])) Q := fun nm e p np => by
        subst e
        have s3 : Same H2 (upd H2 p (.lst [.str kd.nm, v])) := same_upd np
        have r3 : Rp Tr (upd H2 p (.lst [.str kd.nm, v])) (.ref p) (keptD kd pd) := .lst upd_same trivial (.cons (.str _) (.cons (rv2.same s3) .nil))
        exact ⟨p, keptD kd pd, rfl, r3.dp rok.nd, rok, hk2 _ s3⟩
      have fld : ∀ (n : PySem.Str) (Q' : VK), n = kd.fld → Q' v H2 → tXk K n (tVar 1) [some (.ref fa), some (.ref a), none] H2 Q' := fun n Q' e h1 => by
        subst e
        exact ⟨_, rfl, a, Ea kd, dd, _, v, rfl, hA, hD, TK.ec kd ku, TK.nof kd ku, by simp [List.lookup], h1⟩
      refine ⟨_, rfl, rfl, _, rfl, iteF ?_⟩
      refine ⟨_, rfl, a, Ea kd, some dd, _, _, _, rfl, hA, ⟨_, hD⟩, TK.ec kd ku, .ty _, TK.isV kd ku, _, rfl, ?_⟩
      refine iteF ?_
      refine ⟨_, rfl, a, Ea kd, some dd, _, _, _, rfl, hA, ⟨_, hD⟩, TK.ec kd ku, .own _, TK.isC kd ku, _, rfl, ?_⟩
      by_cases h2 : kd = .cells
      · rw [decide_eq_true h2]
        refine iteT (fld _ _ (by rw [h2]; rfl) ⟨(by decide : 2 ≤ sizeLine), fun p np => rep _ (by rw [h2]; rfl) p np⟩)
      · rw [decide_eq_false h2]
        have h3 : kd = .web := by cases kd <;> first | rfl | exact (h2 rfl).elim | cases ku
        refine iteF (fld _ _ (by rw [h3]; rfl) ⟨(by decide : 2 ≤ sizeLine), fun p np => rep _ (by rw [h3]; rfl) p np⟩)
end
end Un

set_option maxRecDepth 100000
set_option maxHeartbeats 8000000
namespace Un
open PySem PySem.Spec PyProof.Rows L2 LamX
def nAl : List PySem.Str := ["_law_size", "_law_some"]
abbrev qAl : PySem.Str := "_law_all.<locals>.<lambda>"
abbrev dAl1 : LamD := lamD qAl nAl s_l_all (lamIn (bodyAt s_l_all 0))
theorem lok1 : LamOk dAl1 := lamOk_by (by decide +kernel) fun _ _ _ _ => rfl
theorem lsb1 : lamSB (defScope s_l_all) dAl1.sc = true := by decide +kernel
abbrev dAl2 : LamD := lamD qAl nAl s_l_all (lamIn (bodyAt s_l_all 1))
theorem lok2 : LamOk dAl2 := lamOk_by (by decide +kernel) fun _ _ _ _ => rfl
theorem lsb2 : lamSB (defScope s_l_all) dAl2.sc = true := by decide +kernel
abbrev dAl3 : LamD := lamD qAl nAl s_l_all (lamIn (bodyAt s_l_all 2))
theorem lok3 : LamOk dAl3 := lamOk_by (by decide +kernel) fun _ _ _ _ => rfl
theorem lsb3 : lamSB (defScope s_l_all) dAl3.sc = true := by decide +kernel
abbrev dAl4 : LamD := lamD qAl nAl s_l_all (lamIn (bodyAt s_l_all 3))
theorem lok4 : LamOk dAl4 := lamOk_by (by decide +kernel) fun _ _ _ _ => rfl
theorem lsb4 : lamSB (defScope s_l_all) dAl4.sc = true := by decide +kernel
section
variable {P : Program} {w : World} {K : PySem.W.Frag} {mg : Str → Option Value} {base : Heap}
theorem fnl_1 {Ea : ErK → Addr} (c : CalX P w K mg base 6 "pieces" (spRefW Ea) []) : FnL P w K mg base 7 dAl1 (spRefW Ea) := by
  refine fnL_ok lok1 fun A outer s H E f c' cl hr => ⟨_, pe_cX (takes_of rfl rfl rfl rfl) c hr (by decide) (by rfl) (pa_cons (pv 0) (pa_cons (pv 1) pa_nil)), fun vs H1 Q E1 eH hc eE h => ?_⟩
  subst eH eE
  obtain ⟨v1, v2, c1, ww, kd, pd, rfl, r1, r2, hs, ha, x⟩ := h
  exact ⟨_, rfl, _, rfl, v1, v2, c1, ww, kd, pd, rfl, rp_unc hc r1, rp_unc hc r2, hs, ha, refE_unc x⟩
theorem fnl_2 {Ea : ErK → Addr} (c : CalX P w K mg base 6 "is_tree" (spRefW Ea) []) : FnL P w K mg base 7 dAl2 (spRefW Ea) := by
  refine fnL_ok lok2 fun A outer s H E f c' cl hr => ⟨_, pe_cX (takes_of rfl rfl rfl rfl) c hr (by decide) (by rfl) (pa_cons (pv 0) (pa_cons (pv 1) pa_nil)), fun vs H1 Q E1 eH hc eE h => ?_⟩
  subst eH eE
  obtain ⟨v1, v2, c1, ww, kd, pd, rfl, r1, r2, hs, ha, x⟩ := h
  exact ⟨_, rfl, _, rfl, v1, v2, c1, ww, kd, pd, rfl, rp_unc hc r1, rp_unc hc r2, hs, ha, refE_unc x⟩
theorem fnl_3 {Ea : ErK → Addr} (c : CalX P w K mg base 6 "round_bounds" (spRefW Ea) []) : FnL P w K mg base 7 dAl3 (spRefW Ea) := by
  refine fnL_ok lok3 fun A outer s H E f c' cl hr => ⟨_, pe_cX (takes_of rfl rfl rfl rfl) c hr (by decide) (by rfl) (pa_cons (pv 0) (pa_cons (pv 1) pa_nil)), fun vs H1 Q E1 eH hc eE h => ?_⟩
  subst eH eE
  obtain ⟨v1, v2, c1, ww, kd, pd, rfl, r1, r2, hs, ha, x⟩ := h
  exact ⟨_, rfl, _, rfl, v1, v2, c1, ww, kd, pd, rfl, rp_unc hc r1, rp_unc hc r2, hs, ha, refE_unc x⟩
theorem fnl_4 {Ea : ErK → Addr} (c : CalX P w K mg base 6 "bridges" (spRefW Ea) []) : FnL P w K mg base 7 dAl4 (spRefW Ea) := by
  refine fnL_ok lok4 fun A outer s H E f c' cl hr => ⟨_, pe_cX (takes_of rfl rfl rfl rfl) c hr (by decide) (by rfl) (pa_cons (pv 0) (pa_cons (pv 1) pa_nil)), fun vs H1 Q E1 eH hc eE h => ?_⟩
  subst eH eE
  obtain ⟨v1, v2, c1, ww, kd, pd, rfl, r1, r2, hs, ha, x⟩ := h
  exact ⟨_, rfl, _, rfl, v1, v2, c1, ww, kd, pd, rfl, rp_unc hc r1, rp_unc hc r2, hs, ha, refE_unc x⟩
def spAll (T : List (Addr × Str)) (Ea : ErK → Addr) : Sp := fun vs H Q _ => ∃ (v1 v2 v3 : V) (c ww : PyData) (kd : ErK) (pd : PyData), vs = [v1, v2, v3] ∧ Rp Tr H v1 c ∧ Rp Tr H v2 ww ∧ Rp Tr H v3 (keptD kd pd) ∧ shortD ww ∧
  askW c ww = some (kd, pd) ∧ kUse kd = true ∧ ReprOk (keptD kd pd) ∧ Tabs T H ∧ ∀ H', ExtN H H' → Tabs T H' → Q (.bl true) H'
theorem hvAl {n : Nat} {x : Str} {c : Addr} (h : (cellsFrom n (defScope s_l_all).names []).lookup x = some c) : (defScope s_l_all).names.lookup x = some .cell := cells_kind0 (by decide +kernel) h
theorem okg_l_all {f c Pt : Addr} {fd : FuncData} {T : List (Addr × Str)} {Ea : ErK → Addr} (F : FunC K "_law_all" "_law_all" s_l_all f fd c) (TB : LamX.TabB base mg c Pt) (hT : (Pt, qAl) ∈ T) (hu : ∀ p ∈ T, p.1 = Pt → p.2 = qAl) (TX : Txt mg) (cK : CalG P w K mg base 9 "_law_kept" (spKept P w K mg base 7 Ea))
    (c1 : CalX P w K mg base 6 "pieces" (spRefW Ea) []) (c2 : CalX P w K mg base 6 "is_tree" (spRefW Ea) []) (c3 : CalX P w K mg base 6 "round_bounds" (spRefW Ea) []) (c4 : CalX P w K mg base 6 "bridges" (spRefW Ea) []) : FnG P w K mg base 11 f fd ["_law_size", "_law_some", "_law_due"] (spAll T Ea) := by
  refine fnG_okC F sc_l_all (fun vs H Q E h => ?_) (fun A outer s H vs Q hg hr h => ?_)
  · obtain ⟨v1, v2, v3, c, ww, kd, pd, rfl, _⟩ := h
    rfl
  · obtain ⟨v1, v2, v3, c, ww, kd, pd, rfl, r1, r2, r5, hs, ha, ku, rok, hTb, q⟩ := h
    refine ⟨_, pss_cons (ps_set (i := 3) sc_l_all.nd rfl (by first | exact Or.inl rfl | exact Or.inr rfl) (pe_lst (pa_cons (pe_lam (T := T) TB rfl hT hu (fun ok => LamS.has (lamS_by lsb1) ok)) pa_nil)))
      (pss_cons (ps_expr (pe_bm PySem.F.plainAttrs_list PySem.F.slot_list_append PySem.F.type_list_append mt_append (pv 3) (pa_cons (pe_lam (T := T) TB rfl hT hu (fun ok => LamS.has (lamS_by lsb2) ok)) pa_nil)))
      (pss_cons (ps_expr (pe_bm PySem.F.plainAttrs_list PySem.F.slot_list_append PySem.F.type_list_append mt_append (pv 3) (pa_cons (pe_lam (T := T) TB rfl hT hu (fun ok => LamS.has (lamS_by lsb3) ok)) pa_nil)))
      (pss_cons (ps_expr (pe_bm PySem.F.plainAttrs_list PySem.F.slot_list_append PySem.F.type_list_append mt_append (pv 3) (pa_cons (pe_lam (T := T) TB rfl hT hu (fun ok => LamS.has (lamS_by lsb4) ok)) pa_nil)))
      (pss_one (ps_ret (pe_cmpR (op_eqD hr.units) (pe_lcW (own := [("_law_ask", 4)]) rfl sc_l_all.nd (fun pins σ H s I => own_def rfl rfl (fun _ => rfl) (fun x c h => hvAl h) I) (pi_list (pv 3)) (blkOk_by (by kernel_rfl))
        (fun _ _ _ _ _ => pg_name (i := 4) sc_l_all.nd rfl (by first | exact Or.inl rfl | exact Or.inr rfl)) (fun σ0 _ _ _ _ _ bo => pts_one (pt_cmpR op_ne (pe_cW (g := fun _ => σ0) bo hg cK hr (by decide) (by rfl) (pa_cons (pv 4) pa_nil)) (pe_callB (id := "repr") (r := rReprD K) (call_reprD hg hr.units) (by rfl) TX.n_repr (by decide +kernel) (pa_cons (pv 2) pa_nil)) (by rfl)))
        (fun σ0 _ _ _ _ _ bo => pv 4)) (pe_lst pa_nil) (by rfl))))))), ?_⟩
    have has : ∀ x ∈ nAl, ∃ a, (cellsFrom (s.heap.objs.size + 1) (defScope s_l_all).names []).lookup x = some a := fun x hx =>
      cells_has (eq_of_beq (List.all_eq_true.mp (show (nAl.all fun x => (defScope s_l_all).names.lookup x == some NameKind.cell) = true by decide +kernel) x hx))
    have inj : Inj (cellsFrom (s.heap.objs.size + 1) (defScope s_l_all).names []) := cells_inj0 _ _
    refine st_lam1 (D := dAl1) hTb fun p f1 H1 x1 t1 np hp m1 => ?_
    refine st_lam2 (D := dAl2) (p := p) rfl hp (by show 1 ≤ 1000; decide) t1 fun f2 H2 x2 t2 hp2 m2 => ?_
    refine st_lam2 (D := dAl3) (p := p) rfl hp2 (by show 2 ≤ 1000; decide) t2 fun f3 H3 x3 t3 hp3 m3 => ?_
    refine st_lam2 (D := dAl4) (p := p) rfl hp3 (by show 3 ≤ 1000; decide) t3 fun f4 H4 x4 t4 hp4 m4 => ?_
    have x12 : ExtN H H4 := ((((ExtP.of x1).trans x2).trans x3).trans x4).new np
    have m1' := ((m1.extP x2 hp).extP x3 hp2).extP x4 hp3
    have m2' := (m2.extP x3 hp2).extP x4 hp3
    have m3' := m3.extP x4 hp3
    have vb : valsB ["_law_size", "_law_some", "_law_due", "_law_asks", "_law_ask"] [some v1, some v2, some v3, some (.ref p), none] nAl [v1, v2] :=
      valsB_cons 0 rfl rfl (valsB_cons 1 rfl rfl valsB_nil)
    have ask : ∀ {f : Addr} {D : LamD}, FnL P w K mg base 7 D (spRefW Ea) → LamOk D → D.N = nAl → Made (cellsFrom (s.heap.objs.size + 1) (defScope s_l_all).names []) H4 f D →
        ∀ H5 H6, Same H4 H5 → TkH (cellsFrom (s.heap.objs.size + 1) (defScope s_l_all).names []) ["_law_size", "_law_some", "_law_due", "_law_asks", "_law_ask"] [some v1, some v2, some v3, some (.ref p), none] H5 H6 →
        ∀ Q' : VK, (∀ H7, Same H6 H7 → Q' (.str (keptD kd pd).shown) H7) → spKept P w K mg base 7 Ea [.ref f] H6 Q' E0 := by
      rintro f D hF hL hN ⟨e', h1, h2⟩ H5 H6 s3 tk Q' hq
      have x14 : ExtN H H6 := x12.trans (ExtN.of (s3.trans tk.same))
      refine ⟨f, D, _, [v1, v2], rfl, hF, cloIs_tk tk hL inj (hN ▸ has) (s3 _ _ h1) (s3 _ _ h2) (hN ▸ vb.1) (hN ▸ vb.2), fun Q1 E1 _ hE => ?_⟩
      refine ⟨v1, v2, c, ww, kd, pd, rfl, r1.ext x14, r2.ext x14, hs, ha, fun v H' s5 rv d H'' s6 nd hd => ?_⟩
      exact hE _ _ _ ⟨kd, v, pd, d, ku, rfl, rfl, hd, rv.same (s5.trans s6), rok, fun H7 s7 => hq H7 ((s5.trans s6).trans s7)⟩
    dsimp only
    show tRet _ _ _ H4
    have hstart : (L2.start ["_law_size", "_law_some", "_law_due", "_law_asks", "_law_ask"] [v1, v2, v3]).set 3 (some (V.ref p)) = [some v1, some v2, some v3, some (.ref p), none] := rfl
    rw [hstart]
    refine ret_op (σ := [some v1, some v2, some v3, some (.ref p), none]) ?_
    show tLc (iList K (tVar 3)) (gName 4) _ (tVar 4) [4] [some v1, some v2, some v3, some (.ref p), none] H4 _
    refine lc_kept (fs := [f1, f2, f3, f4]) (t := (keptD kd pd).shown) rfl (by show 4 < 5; decide) hp4 (fun f H5 Q' s3 hq => ?_) (fun f hf H5 H6 s3 tk Q' hq => ?_) fun d H5 s3 hd => ?_
    · have r5' := (r5.ext x12).same s3
      cases r5' with
      | lst h1 h2 h3 => exact ⟨_, rfl, _, keptD kd pd, rfl, Rp.dp (.lst h1 h2 h3) rok.nd, rok, hq H5 (Same.refl H5)⟩
    · simp only [List.mem_cons, List.not_mem_nil, or_false] at hf
      rcases hf with rfl | rfl | rfl | rfl
      · exact ask (fnl_1 c1) lok1 rfl m1' H5 H6 s3 tk Q' hq
      · exact ask (fnl_2 c2) lok2 rfl m2' H5 H6 s3 tk Q' hq
      · exact ask (fnl_3 c3) lok3 rfl m3' H5 H6 s3 tk Q' hq
      · exact ask (fnl_4 c4) lok4 rfl m4 H5 H6 s3 tk Q' hq
    · refine ⟨(by show 0 ≤ sizeLine; decide), fun b nb => ?_⟩
      refine ⟨.list [], .list [], .lst (sqL_of (same_upd nb _ _ hd)) .nil, .lst (sqL_of upd_same) .nil, by decide +kernel, by decide +kernel, ?_⟩
      exact q _ (x12.trans (ExtN.of (s3.trans (same_upd nb)))) (t4.ext (s3.trans (same_upd nb)))
end
end Un

set_option maxRecDepth 100000
set_option maxHeartbeats 4000000
namespace Un
open PySem PySem.Spec PyProof.Rows L2
section
variable {P : Program} {w : World} {K : PySem.W.Frag} {mg : Str → Option Value} {base : Heap}
/-! ### the draws -/
def Drw (H : Hp) (d : Addr) (k : Nat) : Prop := ∃ (a : Int) (b : Bool), H d = some (.lst [.int a, .int (k : Nat), .bl b]) ∧ 0 ≤ a
def spDraws : Sp := fun vs H Q _ => ∃ c : Int, vs = [.int c] ∧ ∀ H' d, Same H H' → H d = none → Drw H' d 0 → Q (.ref d) H'
theorem big_ok : CPowB 10 60 ∧ CPowB (10 ^ 60) 60 ∧ CPowB ((10 ^ 60) ^ 60) 4 := by
  unfold CPowB
  decide +kernel
theorem ok_draws {f : Addr} {fd : FuncData} (F : Fun K "_law_draws" "_law_draws" s_l_draws f fd) (T : Txt mg) : FnOk P w K mg base CX0 1 f fd ["_law_cell"] spDraws := by
  refine F.ok sc_l_draws (fun vs H Q E h => ?_) (fun cdv A outer s H vs Q E hr h => ?_)
  · obtain ⟨c, rfl, _⟩ := h
    rfl
  · obtain ⟨c, rfl, q⟩ := h
    refine ⟨_, (pss_one (ps_ret (pe_lst (pa_cons (pe_op op_mod (pe_callTy call_int1 (by rfl) T.n_int (by decide +kernel) (pa_cons (pv 0) pa_nil)) (pe_op op_powB (pe_op op_powB (pe_op op_powB pe_int pe_int) pe_int) pe_int)) (pa_cons pe_int (pa_cons (pe_cmpR op_ge (pv 0) (pe_op op_powB pe_int pe_int) (by rfl)) pa_nil)))))), ?_⟩
    refine ⟨_, rfl, .inl ⟨c, rfl, ?_⟩⟩
    refine ⟨10, 60, rfl, rfl, big_ok.1, ?_⟩
    refine ⟨10 ^ 60, 60, rfl, rfl, big_ok.2.1, ?_⟩
    refine ⟨(10 ^ 60) ^ 60, 4, rfl, rfl, big_ok.2.2, ?_⟩
    have pos : (0 : Int) < ((10 ^ 60) ^ 60) ^ 4 := Int.pow_pos (Int.pow_pos (Int.pow_pos (by decide)))
    refine ⟨c, ((10 ^ 60) ^ 60) ^ 4, rfl, rfl, pos, ?_⟩
    refine ⟨_, rfl, 10, 18, rfl, rfl, (by unfold CPowB; decide +kernel), ?_⟩
    refine ⟨c, 10 ^ 18, rfl, rfl, ?_⟩
    refine ⟨by show 3 ≤ sizeLine; decide, fun d nd => ?_⟩
    exact q _ d (same_upd nd) nd ⟨_, _, upd_same, Int.emod_nonneg _ (by omega)⟩
def spNext : Sp := fun vs H Q _ => ∃ (d : Addr) (k : Nat), vs = [.ref d] ∧ Drw H d k ∧ k < 2 ^ 30 ∧ ∀ H' (n : Int), SameBut (· = d) H H' → Drw H' d (k + 1) → 0 ≤ n → Q (.int n) H'
theorem ok_next {f : Addr} {fd : FuncData} (F : Fun K "_law_next" "_law_next" s_l_next f fd) (T : Txt mg) : FnOk P w K mg base CX0 1 f fd ["_law_draws_here"] spNext := by
  refine F.ok sc_l_next (fun vs H Q E h => ?_) (fun cdv A outer s H vs Q E hr h => ?_)
  · obtain ⟨d, k, rfl, _⟩ := h
    rfl
  · obtain ⟨d, k, rfl, ⟨a, b, hd, ha⟩, hk, q⟩ := h
    refine ⟨_, (pss_cons (ps_asg (pe_op op_add (pe_ix ix_list (pv 0) pe_int (fun _ _ => rfl)) pe_int) (pg_sub (pv 0) pe_int set_list))
      (pss_cons (ps_set (i := 1) sc_l_next.nd rfl (by first | exact Or.inl rfl | exact Or.inr rfl) (pe_ix ix_list (pv 0) pe_int (fun _ _ => rfl)))
      (pss_cons (ps_if (pt_val (pe_ix ix_list (pv 0) pe_int (fun _ _ => rfl))) (pss_cons (ps_set (i := 2) sc_l_next.nd rfl (by first | exact Or.inl rfl | exact Or.inr rfl) (pe_op op_mod (pe_callTy call_int1 (by rfl) T.n_int (by decide +kernel) (pa_cons (pe_ix ix_list (pv 0) pe_int (fun _ _ => rfl)) pa_nil)) (pe_op op_powB pe_int pe_int)))
        (pss_cons (ps_asg (pe_op op_fdiv (pe_ix ix_list (pv 0) pe_int (fun _ _ => rfl)) (pe_op op_powB pe_int pe_int)) (pg_sub (pv 0) pe_int set_list))
        (pss_one (ps_ret (pv 2))))) pss_nil)
      (pss_cons (ps_set (i := 2) sc_l_next.nd rfl (by first | exact Or.inl rfl | exact Or.inr rfl) (pe_op op_mod (pe_callTy call_int1 (by rfl) T.n_int (by decide +kernel) (pa_cons (pe_op op_mul (pe_op op_add (pe_op op_add (pe_op op_mod (pe_callTy call_int1 (by rfl) T.n_int (by decide +kernel) (pa_cons (pe_ix ix_list (pv 0) pe_int (fun _ _ => rfl)) pa_nil)) pe_int) (pe_op op_mul (pe_op op_mul (pv 1) (pv 1)) pe_int)) (pv 1)) pe_int) pa_nil)) pe_int))
      (pss_cons (ps_set (i := 2) sc_l_next.nd rfl (by first | exact Or.inl rfl | exact Or.inr rfl) (pe_op op_mod (pe_callTy call_int1 (by rfl) T.n_int (by decide +kernel) (pa_cons (pe_op op_mul (pv 2) (pv 2)) pa_nil)) pe_int))
      (pss_one (ps_ret (pe_op op_fdiv (pe_op op_mod (pe_callTy call_int1 (by rfl) T.n_int (by decide +kernel) (pa_cons (pe_op op_mul (pv 2) (pe_op op_add (pv 2) pe_int)) pa_nil)) pe_int) pe_int)))))))), ?_⟩
    -- the count
    refine ⟨_, rfl, d, _, 1, .int (k : Nat), rfl, rfl, sqL_of hd, atI_nat (j := 1) rfl, ?_⟩
    refine ⟨_, 1, rfl, rfl, ?_⟩
    refine ⟨_, rfl, d, _, 1, 1, rfl, rfl, hd, rfl, ?_⟩
    have hd1 : upd H d (.lst ([V.int a, .int (k : Nat), .bl b].set 1 (.int ((k : Nat) + 1)))) d = some (.lst [.int a, .int ((k + 1 : Nat) : Int), .bl b]) := by
      rw [upd_same]
      rfl
    have b1 : SameBut (· = d) H (upd H d (.lst ([V.int a, .int (k : Nat), .bl b].set 1 (.int ((k : Nat) + 1))))) := (SameBut.refl _ H).mut rfl
    generalize upd H d (.lst ([V.int a, .int (k : Nat), .bl b].set 1 (.int ((k : Nat) + 1)))) = H1 at hd1 b1
    refine ⟨_, rfl, d, _, 1, .int ((k + 1 : Nat) : Int), rfl, rfl, sqL_of hd1, atI_nat (j := 1) rfl, ?_⟩
    refine ⟨_, rfl, d, _, 2, .bl b, rfl, rfl, sqL_of hd1, atI_nat (j := 2) rfl, b, rfl, ?_⟩
    cases b with
    | true =>
      refine iteT ?_
      refine ⟨_, rfl, d, _, 0, .int a, rfl, rfl, sqL_of hd1, atI_nat (j := 0) rfl, .inl ⟨a, rfl, ?_⟩⟩
      refine ⟨10, 6, rfl, rfl, by unfold CPowB; decide +kernel, ?_⟩
      refine ⟨a, 10 ^ 6, rfl, rfl, (by show (0 : Int) < 10 ^ 6; decide), ?_⟩
      refine ⟨_, rfl, d, _, 0, .int a, rfl, rfl, sqL_of hd1, atI_nat (j := 0) rfl, ?_⟩
      refine ⟨10, 6, rfl, rfl, by unfold CPowB; decide +kernel, ?_⟩
      refine ⟨a, 10 ^ 6, rfl, rfl, by unfold CDiv; decide, ?_⟩
      refine ⟨_, rfl, d, _, 0, 0, rfl, rfl, hd1, rfl, ?_⟩
      refine ⟨_, rfl, ?_⟩
      refine q _ _ (b1.mut rfl) ⟨_, _, upd_same, Int.ediv_nonneg ha (by decide)⟩ (Int.emod_nonneg _ (by decide))
    | false =>
      refine iteF ?_
      refine ⟨_, rfl, d, _, 0, .int a, rfl, rfl, sqL_of hd1, atI_nat (j := 0) rfl, .inl ⟨a, rfl, ?_⟩⟩
      refine ⟨a, 1000003, rfl, rfl, (by show (0 : Int) < 1000003; decide), ?_⟩
      refine ⟨_, rfl, _, rfl, ((k + 1 : Nat) : Int), ((k + 1 : Nat) : Int), rfl, rfl, .inl (by omega), ?_⟩
      refine ⟨((k + 1 : Nat) : Int) * ((k + 1 : Nat) : Int), 7919, rfl, rfl, .inr (by decide), ?_⟩
      refine ⟨_, _, rfl, rfl, ?_⟩
      refine ⟨_, rfl, _, _, rfl, rfl, ?_⟩
      refine ⟨_, 48271, rfl, rfl, .inr (by decide), .inl ⟨_, rfl, ?_⟩⟩
      refine ⟨_, 2147483629, rfl, rfl, (by show (0 : Int) < 2147483629; decide), ?_⟩
      obtain ⟨n1, en1, h1, h2⟩ : ∃ n1 : Int, n1 = (a % 1000003 + ((k + 1 : Nat) : Int) * ((k + 1 : Nat) : Int) * 7919 + ((k + 1 : Nat) : Int)) * 48271 % 2147483629 ∧ 0 ≤ n1 ∧ n1 < 2147483629 :=
        ⟨_, rfl, Int.emod_nonneg _ (by decide), Int.emod_lt_of_pos _ (by decide)⟩
      refine ⟨_, rfl, _, rfl, n1, n1, by rw [en1], by rw [en1], .inl (by omega), .inl ⟨_, rfl, ?_⟩⟩
      refine ⟨_, 2147483587, rfl, rfl, (by show (0 : Int) < 2147483587; decide), ?_⟩
      obtain ⟨n2, en2, h3, h4⟩ : ∃ n2 : Int, n2 = n1 * n1 % 2147483587 ∧ 0 ≤ n2 ∧ n2 < 2147483587 := ⟨_, rfl, Int.emod_nonneg _ (by decide), Int.emod_lt_of_pos _ (by decide)⟩
      refine ⟨_, rfl, _, rfl, n2, 2, by rw [en2], rfl, ?_⟩
      refine ⟨n2, n2 + 2, by rw [en2], rfl, .inl (by omega), .inl ⟨_, rfl, ?_⟩⟩
      refine ⟨_, 2147483579, rfl, rfl, (by show (0 : Int) < 2147483579; decide), ?_⟩
      refine ⟨_, 7, rfl, rfl, by unfold CDiv; decide, ?_⟩
      exact q _ _ b1 ⟨_, _, hd1, ha⟩ (Int.ediv_nonneg (Int.emod_nonneg _ (by decide)) (by decide))
end
end Un

namespace Un
/-! ### pieces: the mathematics (behind M10) -/
def lo2 (a b : Int) : Int := if b < a then b else a
def hi2 (a b : Int) : Int := if b > a then b else a
def nStep (names : List Int) (e : Int × Int) : List Int :=
  names.map fun x => if x = hi2 (nAt names e.1) (nAt names e.2) then lo2 (nAt names e.1) (nAt names e.2) else x
def mStep (marks : List Int) (e : Int × Int) : List Int := marks.map fun x => if x = nAt marks e.2 then nAt marks e.1 else x
def namesF (n : Int) (es : List (Int × Int)) : List Int := es.foldl nStep (names0 n)
def marksF (n : Int) (es : List (Int × Int)) : List Int := es.foldl mStep (names0 n)
def cls (n : Int) (nm : List Int) (l : Int) : List Int := (cs n).filter fun c => decide (nAt nm c = l)
def leasts (n : Int) (nm : List Int) : List Int := (cs n).filter fun c => decide (nAt nm c = c)
def pcsF (n : Int) (es : List (Int × Int)) : List (List Int) := (leasts n (namesF n es)).map (cls n (namesF n es))
def lawOne (n : Int) (mk : List Int) (k : Int) : List (List Int) := if (cls n mk (nAt mk k)).getD 0 0 = k then [cls n mk (nAt mk k)] else []
def lawPcs (n : Int) (es : List (Int × Int)) : List (List Int) := (cs n).flatMap (lawOne n (marksF n es))

theorem cs_asc (n : Int) : (cs n).Pairwise (· < ·) := by
  unfold cs
  rw [List.pairwise_map]
  exact List.Pairwise.imp (fun h => by omega) List.pairwise_lt_range
theorem nAt_map {names : List Int} (f : Int → Int) {c : Int} (h0 : 0 ≤ c) (h : c < names.length) : nAt (names.map f) c = f (nAt names c) := by
  unfold nAt
  have hc : c.toNat < names.length := by omega
  rw [List.getD_eq_getElem?_getD, List.getD_eq_getElem?_getD, List.getElem?_map, List.getElem?_eq_getElem hc] <;> rfl
/-- what stands between two turns -/
structure Alike (n : Int) (nm mk : List Int) : Prop where
  l1 : (nm.length : Int) = n + 1
  l2 : (mk.length : Int) = n + 1
  eq : ∀ i j, 1 ≤ i → i ≤ n → 1 ≤ j → j ≤ n → (nAt nm i = nAt nm j ↔ nAt mk i = nAt mk j)
  ge : ∀ i, 1 ≤ i → i ≤ n → 1 ≤ nAt nm i ∧ nAt nm i ≤ i
  fix : ∀ i, 1 ≤ i → i ≤ n → nAt nm (nAt nm i) = nAt nm i
theorem Alike.zero {n : Int} (hn : 0 ≤ n) : Alike n (names0 n) (names0 n) where
  l1 := by rw [names0_len]; omega
  l2 := by rw [names0_len]; omega
  eq := fun _ _ _ _ _ _ => Iff.rfl
  ge := fun i h1 h2 => by rw [nAt_names0 (by omega) h2]; omega
  fix := fun i h1 h2 => by rw [nAt_names0 (by omega) h2, nAt_names0 (by omega) h2]
theorem lohi (a b : Int) : (lo2 a b = a ∧ hi2 a b = b ∧ a ≤ b) ∨ (lo2 a b = b ∧ hi2 a b = a ∧ b ≤ a) := by
  unfold lo2 hi2
  by_cases h : b < a
  · rw [if_pos h, if_neg (by omega)]
    omega
  · rw [if_neg h]
    by_cases h2 : b > a
    · rw [if_pos h2]
      omega
    · rw [if_neg h2]
      omega
theorem merge1 {x y p q x' y' p' q' : Int} (a : x = y ↔ x' = y') (b : x = p ↔ x' = p') (c : x = q ↔ x' = q') (d : y = p ↔ y' = p') (e : y = q ↔ y' = q') (f : p = q ↔ p' = q') :
    ((if x = q then p else x) = (if y = q then p else y)) ↔ ((if x' = q' then p' else x') = (if y' = q' then p' else y')) := by
  by_cases h1 : x = q <;> by_cases h2 : y = q
  · rw [if_pos h1, if_pos h2, if_pos (c.mp h1), if_pos (e.mp h2)]
    exact ⟨fun _ => rfl, fun _ => rfl⟩
  · rw [if_pos h1, if_neg h2, if_pos (c.mp h1), if_neg fun z => h2 (e.mpr z)]
    exact ⟨fun z => (d.mp z.symm).symm, fun z => (d.mpr z.symm).symm⟩
  · rw [if_neg h1, if_pos h2, if_neg fun z => h1 (c.mpr z), if_pos (e.mp h2)]
    exact b
  · rw [if_neg h1, if_neg h2, if_neg fun z => h1 (c.mpr z), if_neg fun z => h2 (e.mpr z)]
    exact a
/-- the other way round -/
theorem merge2 {x y p q : Int} : ((if x = p then q else x) = (if y = p then q else y)) ↔ ((if x = q then p else x) = (if y = q then p else y)) := by
  split <;> split <;> split <;> split <;> omega
theorem Alike.step {n : Int} {nm mk : List Int} (h : Alike n nm mk) {e : Int × Int} (a1 : 1 ≤ e.1) (a2 : e.1 ≤ n) (b1 : 1 ≤ e.2) (b2 : e.2 ≤ n) : Alike n (nStep nm e) (mStep mk e) := by
  have l1 := h.l1
  have l2 := h.l2
  have n1 : ∀ i, 1 ≤ i → i ≤ n → nAt (nStep nm e) i = if nAt nm i = hi2 (nAt nm e.1) (nAt nm e.2) then lo2 (nAt nm e.1) (nAt nm e.2) else nAt nm i := fun i h1 h2 => nAt_map _ (by omega) (by omega)
  have n2 : ∀ i, 1 ≤ i → i ≤ n → nAt (mStep mk e) i = if nAt mk i = nAt mk e.2 then nAt mk e.1 else nAt mk i := fun i h1 h2 => nAt_map _ (by omega) (by omega)
  have lh := lohi (nAt nm e.1) (nAt nm e.2)
  have gu := h.ge e.1 a1 a2
  have gv := h.ge e.2 b1 b2
  have fu := h.fix e.1 a1 a2
  have fv := h.fix e.2 b1 b2
  refine ⟨?_, ?_, ?_, ?_, ?_⟩
  · unfold nStep
    rw [List.length_map]
    exact l1
  · unfold mStep
    rw [List.length_map]
    exact l2
  · intro i j i1 i2 j1 j2
    rw [n1 i i1 i2, n1 j j1 j2, n2 i i1 i2, n2 j j1 j2]
    have eij := h.eq i j i1 i2 j1 j2
    have eiu := h.eq i e.1 i1 i2 a1 a2
    have eiv := h.eq i e.2 i1 i2 b1 b2
    have eju := h.eq j e.1 j1 j2 a1 a2
    have ejv := h.eq j e.2 j1 j2 b1 b2
    have epq := h.eq e.1 e.2 a1 a2 b1 b2
    rcases lh with ⟨e1, e2, _⟩ | ⟨e1, e2, _⟩
    · rw [e1, e2]
      exact merge1 eij eiu eiv eju ejv epq
    · rw [e1, e2]
      exact merge2.trans (merge1 eij eiu eiv eju ejv epq)
  · intro i i1 i2
    rw [n1 i i1 i2]
    have := h.ge i i1 i2
    split <;> rcases lh with ⟨e1, e2, _⟩ | ⟨e1, e2, _⟩ <;> omega
  · intro i i1 i2
    have gi := h.ge i i1 i2
    have fi := h.fix i i1 i2
    rw [n1 i i1 i2]
    by_cases c : nAt nm i = hi2 (nAt nm e.1) (nAt nm e.2)
    · rw [if_pos c]
      have w1 : 1 ≤ lo2 (nAt nm e.1) (nAt nm e.2) ∧ lo2 (nAt nm e.1) (nAt nm e.2) ≤ n := by rcases lh with ⟨e1, e2, _⟩ | ⟨e1, e2, _⟩ <;> omega
      rw [n1 _ w1.1 w1.2]
      have w2 : nAt nm (lo2 (nAt nm e.1) (nAt nm e.2)) = lo2 (nAt nm e.1) (nAt nm e.2) := by
        rcases lh with ⟨e1, e2, _⟩ | ⟨e1, e2, _⟩
        · rw [e1]; exact fu
        · rw [e1]; exact fv
      rw [w2]
      split <;> rfl
    · rw [if_neg c, n1 _ gi.1 (by omega), fi, if_neg c]
theorem Alike.all {n : Int} : ∀ {es : List (Int × Int)} {nm mk : List Int}, (∀ e ∈ es, 1 ≤ e.1 ∧ e.1 < e.2 ∧ e.2 ≤ n) → Alike n nm mk → Alike n (es.foldl nStep nm) (es.foldl mStep mk)
  | [], _, _, _, h => h
  | e :: es, _, _, hI, h => by
    obtain ⟨i1, i2, i3⟩ := hI e List.mem_cons_self
    exact Alike.all (es := es) (fun f hf => hI f (List.mem_cons_of_mem _ hf)) (h.step i1 (by omega) (by omega) i3)
theorem head_least {p : Int → Bool} {r : Int} : ∀ {l : List Int}, l.Pairwise (· < ·) → r ∈ l → p r = true → (∀ o ∈ l, p o = true → r ≤ o) → (l.filter p).getD 0 0 = r
  | [], _, h, _, _ => (List.not_mem_nil h).elim
  | x :: xs, ha, hm, hp, hl => by
    obtain ⟨h1, h2⟩ := List.pairwise_cons.mp ha
    by_cases hx : p x = true
    · rw [List.filter_cons_of_pos hx]
      show x = r
      rcases List.mem_cons.mp hm with e | hm
      · exact e.symm
      · have := h1 r hm
        have := hl x List.mem_cons_self hx
        omega
    · rw [List.filter_cons_of_neg hx]
      have hr : r ∈ xs := by
        rcases List.mem_cons.mp hm with e | hm
        · rw [e] at hp
          exact absurd hp hx
        · exact hm
      exact head_least h2 hr hp fun o ho => hl o (List.mem_cons_of_mem _ ho)
theorem lawOne_eq {n : Int} {nm mk : List Int} (h : Alike n nm mk) {k : Int} (k1 : 1 ≤ k) (k2 : k ≤ n) : lawOne n mk k = if nAt nm k = k then [cls n nm k] else [] := by
  have e : cls n mk (nAt mk k) = cls n nm (nAt nm k) := by
    unfold cls
    refine List.filter_congr fun c hc => ?_
    obtain ⟨c1, c2⟩ := mem_cs.mp hc
    exact decide_eq_decide.mpr (h.eq c k c1 c2 k1 k2).symm
  have hg := h.ge k k1 k2
  have hh : (cls n nm (nAt nm k)).getD 0 0 = nAt nm k := by
    refine head_least (cs_asc n) (mem_cs.mpr ⟨hg.1, by omega⟩) (decide_eq_true (h.fix k k1 k2)) fun o ho hp => ?_
    obtain ⟨o1, o2⟩ := mem_cs.mp ho
    have := h.ge o o1 o2
    have := of_decide_eq_true hp
    omega
  unfold lawOne
  rw [e, hh]
  by_cases c : nAt nm k = k
  · rw [if_pos c, if_pos c, c]
  · rw [if_neg c, if_neg c]
theorem law_pcs {n : Int} {es : List (Int × Int)} (hn : 0 ≤ n) (hI : ∀ e ∈ es, 1 ≤ e.1 ∧ e.1 < e.2 ∧ e.2 ≤ n) : lawPcs n es = pcsF n es := by
  have h : Alike n (namesF n es) (marksF n es) := Alike.all hI (Alike.zero hn)
  unfold lawPcs pcsF leasts
  have key : ∀ l : List Int, (∀ k ∈ l, 1 ≤ k ∧ k ≤ n) → l.flatMap (lawOne n (marksF n es)) = (l.filter fun c => decide (nAt (namesF n es) c = c)).map (cls n (namesF n es)) := by
    intro l
    induction l with
    | nil => intro _; rfl
    | cons k l ih =>
      intro hl
      obtain ⟨k1, k2⟩ := hl k List.mem_cons_self
      rw [List.flatMap_cons, ih fun m hm => hl m (List.mem_cons_of_mem _ hm), lawOne_eq h k1 k2]
      by_cases c : nAt (namesF n es) k = k
      · rw [if_pos c, List.filter_cons, if_pos (by simp [c])] <;> rfl
      · rw [if_neg c, List.filter_cons, if_neg (by simp [c])] <;> rfl
  exact key _ fun k hk => mem_cs.mp hk
theorem pcsF_small {n : Int} {es : List (Int × Int)} : (pcsF n es).length ≤ n.toNat ∧ ∀ xs ∈ pcsF n es, xs.length ≤ n.toNat ∧ ∀ c ∈ xs, 1 ≤ c ∧ c ≤ n := by
  unfold pcsF leasts cls
  refine ⟨?_, ?_⟩
  · rw [List.length_map, ← cs_len n]
    exact List.length_filter_le _ _
  · intro xs hx
    obtain ⟨l, _, rfl⟩ := List.mem_map.mp hx
    refine ⟨?_, fun c hc => mem_cs.mp (List.mem_filter.mp hc).1⟩
    rw [← cs_len n]
    exact List.length_filter_le _ _
end Un

set_option maxHeartbeats 1000000
namespace Un
/-! ### meetings: the mathematics -/
def sw (a b c : Int) : Int := if c = b then a else if c = a then b else c
def hStep (h : List Int) (e : Int × Int) : List Int := (h.set e.1.toNat (nAt h e.2)).set e.2.toNat (nAt h e.1)
def InR (n : Int) (X : List (Int × Int)) : Prop := ∀ e ∈ X, 1 ≤ e.1 ∧ e.1 ≤ n ∧ 1 ≤ e.2 ∧ e.2 ≤ n
def Inc (n : Int) (X : List (Int × Int)) : Prop := ∀ e ∈ X, 1 ≤ e.1 ∧ e.1 < e.2 ∧ e.2 ≤ n
theorem Inc.inR {n : Int} {X : List (Int × Int)} (h : Inc n X) : InR n X := fun e he => by
  have := h e he
  omega
theorem InR.tail {n : Int} {e : Int × Int} {X : List (Int × Int)} (h : InR n (e :: X)) : InR n X := fun f hf => h f (List.mem_cons_of_mem _ hf)
theorem Inc.tail {n : Int} {e : Int × Int} {X : List (Int × Int)} (h : Inc n (e :: X)) : Inc n X := fun f hf => h f (List.mem_cons_of_mem _ hf)
theorem hStep_len (h : List Int) (e : Int × Int) : (hStep h e).length = h.length := by
  unfold hStep
  rw [List.length_set, List.length_set]
theorem nAt_hStep {n : Int} {h : List Int} {e : Int × Int} (hl : (h.length : Int) = n + 1) (a1 : 1 ≤ e.1) (a2 : e.1 ≤ n) (b1 : 1 ≤ e.2) (b2 : e.2 ≤ n) {c : Int} (c0 : 0 ≤ c) : nAt (hStep h e) c = nAt h (sw e.1 e.2 c) := by
  unfold hStep sw
  rw [nAt_set (by omega) (by rw [List.length_set]; omega) c0, nAt_set (by omega) (by omega) c0]
  split
  · rfl
  · split <;> rfl
theorem sw_rg {n a b c : Int} (a1 : 1 ≤ a) (a2 : a ≤ n) (b1 : 1 ≤ b) (b2 : b ≤ n) (c1 : 1 ≤ c) (c2 : c ≤ n) : 1 ≤ sw a b c ∧ sw a b c ≤ n := by
  unfold sw
  split
  · omega
  · split <;> omega
theorem sw_inj {a b c d : Int} (h : sw a b c = sw a b d) : c = d := by
  unfold sw at h
  split at h <;> split at h <;> (try split at h) <;> (try split at h) <;> omega
theorem sw_lohi (a b c : Int) : sw (lo2 a b) (hi2 a b) c = sw a b c := by
  rcases lohi a b with ⟨e1, e2, _⟩ | ⟨e1, e2, _⟩
  · rw [e1, e2]
  · rw [e1, e2]
    unfold sw
    split <;> split <;> omega
structure Prm (n : Int) (h : List Int) : Prop where
  len : (h.length : Int) = n + 1
  rg : ∀ c, 1 ≤ c → c ≤ n → 1 ≤ nAt h c ∧ nAt h c ≤ n
  inj : ∀ c d, 1 ≤ c → c ≤ n → 1 ≤ d → d ≤ n → nAt h c = nAt h d → c = d
theorem Prm.zero {n : Int} (hn : 0 ≤ n) : Prm n (names0 n) where
  len := by rw [names0_len]; omega
  rg := fun c c1 c2 => by rw [nAt_names0 (by omega) c2]; omega
  inj := fun c d c1 c2 d1 d2 h => by rw [nAt_names0 (by omega) c2, nAt_names0 (by omega) d2] at h; exact h
theorem Prm.step {n : Int} {h : List Int} (p : Prm n h) {e : Int × Int} (a1 : 1 ≤ e.1) (a2 : e.1 ≤ n) (b1 : 1 ≤ e.2) (b2 : e.2 ≤ n) : Prm n (hStep h e) where
  len := by rw [hStep_len]; exact p.len
  rg := fun c c1 c2 => by
    rw [nAt_hStep p.len a1 a2 b1 b2 (by omega)]
    obtain ⟨s1, s2⟩ := sw_rg a1 a2 b1 b2 c1 c2
    exact p.rg _ s1 s2
  inj := fun c d c1 c2 d1 d2 h => by
    rw [nAt_hStep p.len a1 a2 b1 b2 (by omega), nAt_hStep p.len a1 a2 b1 b2 (by omega)] at h
    obtain ⟨s1, s2⟩ := sw_rg a1 a2 b1 b2 c1 c2
    obtain ⟨t1, t2⟩ := sw_rg a1 a2 b1 b2 d1 d2
    exact sw_inj (p.inj _ _ s1 s2 t1 t2 h)
theorem Prm.all {n : Int} : ∀ {X : List (Int × Int)} {h : List Int}, InR n X → Prm n h → Prm n (X.foldl hStep h)
  | [], _, _, p => p
  | e :: X, h, hI, p => by
    obtain ⟨a1, a2, b1, b2⟩ := hI e List.mem_cons_self
    exact Prm.all (X := X) hI.tail (p.step a1 a2 b1 b2)
def heldF (n : Int) (X : List (Int × Int)) : List Int := X.foldl hStep (names0 n)
/-- the pairs of things -/
def metG : List Int → List (Int × Int) → List (Int × Int)
  | _, [] => []
  | h, e :: es => (lo2 (nAt h e.1) (nAt h e.2), hi2 (nAt h e.1) (nAt h e.2)) :: metG (hStep h e) es
def metF (n : Int) (es : List (Int × Int)) : List (Int × Int) := metG (names0 n) es
theorem metG_len : ∀ (h : List Int) (es : List (Int × Int)), (metG h es).length = es.length
  | _, [] => rfl
  | h, e :: es => by
    show (metG (hStep h e) es).length + 1 = es.length + 1
    rw [metG_len]
theorem metG_snoc : ∀ (h : List Int) (es : List (Int × Int)) (e : Int × Int), metG h (es ++ [e]) = metG h es ++ [(lo2 (nAt (es.foldl hStep h) e.1) (nAt (es.foldl hStep h) e.2), hi2 (nAt (es.foldl hStep h) e.1) (nAt (es.foldl hStep h) e.2))]
  | h, [], e => rfl
  | h, f :: es, e => by
    show _ :: metG (hStep h f) (es ++ [e]) = _ :: (metG (hStep h f) es ++ _)
    rw [metG_snoc]
    rfl
theorem metG_inc {n : Int} : ∀ {es : List (Int × Int)} {h : List Int}, Inc n es → Prm n h → Inc n (metG h es)
  | [], _, _, _ => fun e he => (List.not_mem_nil he).elim
  | e :: es, h, hI, p => fun f hf => by
    obtain ⟨i1, i2, i3⟩ := hI e List.mem_cons_self
    rcases List.mem_cons.mp hf with rfl | hf
    · obtain ⟨x1, x2⟩ := p.rg e.1 i1 (by omega)
      obtain ⟨y1, y2⟩ := p.rg e.2 (by omega) i3
      have ne : nAt h e.1 ≠ nAt h e.2 := fun z => by
        have := p.inj _ _ i1 (by omega) (by omega) i3 z
        omega
      rcases lohi (nAt h e.1) (nAt h e.2) with ⟨e1, e2, _⟩ | ⟨e1, e2, _⟩
      · show 1 ≤ lo2 _ _ ∧ lo2 _ _ < hi2 _ _ ∧ hi2 _ _ ≤ n
        rw [e1, e2]
        omega
      · show 1 ≤ lo2 _ _ ∧ lo2 _ _ < hi2 _ _ ∧ hi2 _ _ ≤ n
        rw [e1, e2]
        omega
    · exact metG_inc (es := es) hI.tail (p.step i1 (by omega) (by omega) i3) f hf
/-! made backward -/
def comp : List (Int × Int) → Int → Int
  | [], c => c
  | e :: X, c => sw e.1 e.2 (comp X c)
theorem comp_append : ∀ (A B : List (Int × Int)) (c : Int), comp (A ++ B) c = comp A (comp B c)
  | [], _, _ => rfl
  | e :: A, B, c => by
    show sw e.1 e.2 (comp (A ++ B) c) = sw e.1 e.2 (comp A (comp B c))
    rw [comp_append]
theorem comp_ge {n : Int} : ∀ {X : List (Int × Int)} {c : Int}, InR n X → 0 ≤ c → 0 ≤ comp X c
  | [], _, _, h => h
  | e :: X, c, hI, h => by
    obtain ⟨a1, a2, b1, b2⟩ := hI e List.mem_cons_self
    have r := comp_ge (X := X) hI.tail h
    show 0 ≤ sw e.1 e.2 (comp X c)
    unfold sw
    split
    · omega
    · split <;> omega
theorem run_nAt {n : Int} : ∀ {X : List (Int × Int)} {h : List Int}, InR n X → (h.length : Int) = n + 1 → ∀ {c : Int}, 0 ≤ c → nAt (X.foldl hStep h) c = nAt h (comp X c)
  | [], _, _, _, _, _ => rfl
  | e :: X, h, hI, hl, c, c0 => by
    obtain ⟨a1, a2, b1, b2⟩ := hI e List.mem_cons_self
    show nAt (X.foldl hStep (hStep h e)) c = nAt h (sw e.1 e.2 (comp X c))
    rw [run_nAt (X := X) hI.tail (by rw [hStep_len]; exact hl) c0, nAt_hStep hl a1 a2 b1 b2 (comp_ge hI.tail c0)]
theorem sw_map {n : Int} {h : List Int} (p : Prm n h) {u v c : Int} (u1 : 1 ≤ u) (u2 : u ≤ n) (v1 : 1 ≤ v) (v2 : v ≤ n) (c1 : 1 ≤ c) (c2 : c ≤ n) : sw (nAt h u) (nAt h v) (nAt h c) = nAt h (sw u v c) := by
  unfold sw
  by_cases e2 : c = v
  · rw [if_pos (by rw [e2]), if_pos e2]
  · rw [if_neg fun z => e2 (p.inj _ _ c1 c2 v1 v2 z), if_neg e2]
    by_cases e1 : c = u
    · rw [if_pos (by rw [e1]), if_pos e1]
    · rw [if_neg fun z => e1 (p.inj _ _ c1 c2 u1 u2 z), if_neg e1]
theorem met_back {n : Int} : ∀ {es : List (Int × Int)} {h : List Int}, InR n es → Prm n h → ∀ {c : Int}, 1 ≤ c → c ≤ n → comp (metG h es).reverse (nAt h c) = nAt (es.foldl hStep h) c
  | [], _, _, _, _, _, _ => rfl
  | e :: es, h, hI, p, c, c1, c2 => by
    obtain ⟨a1, a2, b1, b2⟩ := hI e List.mem_cons_self
    show comp (_ :: metG (hStep h e) es).reverse (nAt h c) = nAt (es.foldl hStep (hStep h e)) c
    rw [List.reverse_cons, comp_append]
    show comp (metG (hStep h e) es).reverse (sw (lo2 (nAt h e.1) (nAt h e.2)) (hi2 (nAt h e.1) (nAt h e.2)) (nAt h c)) = _
    rw [sw_lohi, sw_map p a1 a2 b1 b2 c1 c2, ← nAt_hStep p.len a1 a2 b1 b2 (by omega)]
    exact met_back (es := es) hI.tail (p.step a1 a2 b1 b2) c1 c2
/-- the array of things is the same -/
theorem back_held {n : Int} (hn : 0 ≤ n) {es : List (Int × Int)} (hI : Inc n es) {c : Int} (c1 : 1 ≤ c) (c2 : c ≤ n) : nAt (heldF n (metF n es).reverse) c = nAt (heldF n es) c := by
  have hm : InR n (metF n es).reverse := fun e he => (metG_inc hI (Prm.zero hn)).inR e (List.mem_reverse.mp he)
  have z := met_back hI.inR (Prm.zero hn) c1 c2
  rw [nAt_names0 (by omega) c2] at z
  have rg := (Prm.all hI.inR (Prm.zero hn)).rg c c1 c2
  unfold heldF
  rw [run_nAt hm (Prm.zero hn).len (by omega)]
  unfold metF
  rw [z, nAt_names0 (by omega) (by omega)]
/-- what a row of things tells: where each one lies -/
def Tells (n : Int) (h r : List Int) : Prop := (r.length : Int) = n ∧ ∀ k, 1 ≤ k → k ≤ n → r[(nAt h k - 1).toNat]? = some k
theorem Tells.ends {n : Int} {xss : List (List Int)} {h r : List Int} (t : Tells n h r) (hd : Held n xss h) : r = xss.map lst := by
  have lx := hd.lx
  have lr := t.1
  refine List.ext_getElem (by rw [List.length_map]; omega) fun i h1 h2 => ?_
  rw [List.length_map] at h2
  obtain ⟨c1, c2, c3⟩ := hd.of_ (1 + (i : Int)) (by omega) (by omega)
  have z := t.2 _ c1 c2
  rw [c3, show (1 + (i : Int) - 1).toNat = i by omega, List.getElem?_eq_getElem h1] at z
  rw [Option.some.inj z, List.getElem_map]
  unfold row
  rw [show (1 + (i : Int) - 1).toNat = i by omega, List.getD_eq_getElem?_getD, List.getElem?_eq_getElem h2] <;> rfl
theorem Tells.same {n : Int} {h h' r : List Int} (t : Tells n h r) (e : ∀ c, 1 ≤ c → c ≤ n → nAt h c = nAt h' c) : Tells n h' r := ⟨t.1, fun k k1 k2 => by
  rw [← e k k1 k2]
  exact t.2 k k1 k2⟩
theorem held_heldF {n : Int} : ∀ {es : List (Int × Int)} {xss : List (List Int)} {h : List Int}, Inc n es → Held n xss h → Held n (es.foldl wStep xss) (es.foldl hStep h)
  | [], _, _, _, p => p
  | e :: es, xss, h, hI, p => by
    obtain ⟨i1, i2, i3⟩ := hI e List.mem_cons_self
    exact held_heldF (es := es) hI.tail (p.step i1 i2 i3).2.1
theorem Held.prm {n : Int} {xss : List (List Int)} {h : List Int} (p : Held n xss h) : Prm n h where
  len := p.lh
  rg := fun c c1 c2 => ⟨(p.at_ c c1 c2).1, (p.at_ c c1 c2).2.1⟩
  inj := fun c d c1 c2 d1 d2 z => by
    have a := (p.at_ c c1 c2).2.2
    have b := (p.at_ d d1 d2).2.2
    rw [← a, ← b, z]
theorem tells_ends {n : Int} (hn : 0 ≤ n) {es : List (Int × Int)} (hI : Inc n es) {r : List Int} (t : Tells n (heldF n es) r) : r = endsF n es := t.ends (held_heldF hI (Held.zero hn))
/-! how many one meets -/
def hasB (i : Int) (p : Int × Int) : Bool := decide (i = p.1) || decide (i = p.2)
theorem hasB_lohi (i a b : Int) : hasB i (lo2 a b, hi2 a b) = (decide (i = a) || decide (i = b)) := by
  unfold hasB
  rcases lohi a b with ⟨e1, e2, _⟩ | ⟨e1, e2, _⟩
  · rw [e1, e2]
  · rw [e1, e2, Bool.or_comm]
theorem met_steps {n : Int} : ∀ {es : List (Int × Int)} {xss : List (List Int)} {h : List Int}, Inc n es → Held n xss h → ∀ {i : Int}, 1 ≤ i → i ≤ n →
    (row (es.foldl wStep xss) i).length = (row xss i).length + ((metG h es).filter (hasB i)).length
  | [], _, _, _, _, _, _, _ => rfl
  | e :: es, xss, h, hI, p, i, j1, j2 => by
    obtain ⟨i1, i2, i3⟩ := hI e List.mem_cons_self
    have q := p.step i1 i2 i3
    obtain ⟨c1, c2, c3⟩ := p.of_ i j1 j2
    have a3 := (p.at_ e.1 i1 (by omega)).2.2
    have b3 := (p.at_ e.2 (by omega) i3).2.2
    show (row (es.foldl wStep (wStep xss e)) i).length = _ + ((_ :: metG (hStep h e) es).filter (hasB i)).length
    rw [met_steps (es := es) (h := hStep h e) hI.tail q.2.1 j1 j2, List.filter_cons, hasB_lohi]
    have er : row (wStep xss e) i = wOne e (row xss i) := row_map j1 (by have := p.lx; omega)
    rw [er]
    unfold wOne
    by_cases d1 : lst (row xss i) = e.1
    · rw [if_pos d1, if_pos (by rw [← d1, c3]; simp), List.length_append, List.length_cons]
      simp only [List.length_cons, List.length_nil]
      omega
    · rw [if_neg d1]
      by_cases d2 : lst (row xss i) = e.2
      · rw [if_pos d2, if_pos (by rw [← d2, c3]; simp), List.length_append, List.length_cons]
        simp only [List.length_cons, List.length_nil]
        omega
      · rw [if_neg d2, if_neg]
        rw [Bool.or_eq_true, decide_eq_true_eq, decide_eq_true_eq]
        rintro (z | z)
        · exact d1 (by rw [z, a3])
        · exact d2 (by rw [z, b3])
theorem row_ways_pos {n : Int} (hn : 0 ≤ n) {es : List (Int × Int)} (hI : Inc n es) {i : Int} (i1 : 1 ≤ i) (i2 : i ≤ n) : (row (waysF n es) i).length = 1 + ((metF n es).filter (hasB i)).length := by
  unfold waysF metF
  rw [met_steps hI (Held.zero hn) i1 i2, row_ways0 i1 i2] <;> rfl
end Un

set_option maxHeartbeats 1000000
namespace Un
/-! ### who is joined; the things that meet are a tree -/
theorem nAt_nStep {n : Int} {nm : List Int} (hl : (nm.length : Int) = n + 1) (e : Int × Int) {i : Int} (i1 : 1 ≤ i) (i2 : i ≤ n) : nAt (nStep nm e) i = if nAt nm i = hi2 (nAt nm e.1) (nAt nm e.2) then lo2 (nAt nm e.1) (nAt nm e.2) else nAt nm i := nAt_map _ (by omega) (by omega)
theorem nStep_len (nm : List Int) (e : Int × Int) : (nStep nm e).length = nm.length := by
  unfold nStep
  rw [List.length_map]
theorem nStep_eq {n : Int} {nm : List Int} (hl : (nm.length : Int) = n + 1) (e : Int × Int) {c d : Int} (c1 : 1 ≤ c) (c2 : c ≤ n) (d1 : 1 ≤ d) (d2 : d ≤ n) :
    nAt (nStep nm e) c = nAt (nStep nm e) d ↔ nAt nm c = nAt nm d ∨ ((nAt nm c = nAt nm e.1 ∨ nAt nm c = nAt nm e.2) ∧ (nAt nm d = nAt nm e.1 ∨ nAt nm d = nAt nm e.2)) := by
  rw [nAt_nStep hl e c1 c2, nAt_nStep hl e d1 d2]
  rcases lohi (nAt nm e.1) (nAt nm e.2) with ⟨e1, e2, _⟩ | ⟨e1, e2, _⟩ <;> rw [e1, e2] <;> split <;> split <;> omega
theorem nrun_len : ∀ (X : List (Int × Int)) (nm : List Int), (X.foldl nStep nm).length = nm.length
  | [], _ => rfl
  | e :: X, nm => by
    show (X.foldl nStep (nStep nm e)).length = _
    rw [nrun_len, nStep_len]
theorem nrun_mono {n : Int} : ∀ {X : List (Int × Int)} {nm : List Int}, (nm.length : Int) = n + 1 → ∀ {c d : Int}, 1 ≤ c → c ≤ n → 1 ≤ d → d ≤ n → nAt nm c = nAt nm d → nAt (X.foldl nStep nm) c = nAt (X.foldl nStep nm) d
  | [], _, _, _, _, _, _, _, _, h => h
  | e :: X, nm, hl, c, d, c1, c2, d1, d2, h => nrun_mono (X := X) (nm := nStep nm e) (by rw [nStep_len]; exact hl) c1 c2 d1 d2 ((nStep_eq hl e c1 c2 d1 d2).mpr (.inl h))
theorem nrun_in {n : Int} : ∀ {X : List (Int × Int)} {nm : List Int}, (nm.length : Int) = n + 1 → InR n X → ∀ e ∈ X, nAt (X.foldl nStep nm) e.1 = nAt (X.foldl nStep nm) e.2
  | f :: X, nm, hl, hI, e, he => by
    obtain ⟨a1, a2, b1, b2⟩ := hI e he
    show nAt (X.foldl nStep (nStep nm f)) e.1 = nAt (X.foldl nStep (nStep nm f)) e.2
    rcases List.mem_cons.mp he with rfl | he
    · exact nrun_mono (by rw [nStep_len]; exact hl) a1 a2 b1 b2 ((nStep_eq hl e a1 a2 b1 b2).mpr (.inr ⟨.inl rfl, .inr rfl⟩))
    · exact nrun_in (by rw [nStep_len]; exact hl) hI.tail e he
/-- what joins the two of each pair joins all that is joined -/
structure Jn (n : Int) (S : Int → Int → Prop) : Prop where
  rf : ∀ c, S c c
  sy : ∀ c d, S c d → S d c
  tr : ∀ c d e, S c d → S d e → S c e
theorem nrun_least {n : Int} {S : Int → Int → Prop} (J : Jn n S) : ∀ {X : List (Int × Int)} {nm : List Int}, (nm.length : Int) = n + 1 → InR n X → (∀ e ∈ X, S e.1 e.2) →
    (∀ c d, 1 ≤ c → c ≤ n → 1 ≤ d → d ≤ n → nAt nm c = nAt nm d → S c d) → ∀ c d, 1 ≤ c → c ≤ n → 1 ≤ d → d ≤ n → nAt (X.foldl nStep nm) c = nAt (X.foldl nStep nm) d → S c d
  | [], _, _, _, _, h => h
  | e :: X, nm, hl, hI, hS, h => by
    obtain ⟨a1, a2, b1, b2⟩ := hI e List.mem_cons_self
    have se := hS e List.mem_cons_self
    refine nrun_least J (X := X) (nm := nStep nm e) (by rw [nStep_len]; exact hl) hI.tail (fun f hf => hS f (List.mem_cons_of_mem _ hf)) fun c d c1 c2 d1 d2 z => ?_
    rcases (nStep_eq hl e c1 c2 d1 d2).mp z with z | ⟨z1, z2⟩
    · exact h c d c1 c2 d1 d2 z
    · have k1 : S c e.1 := by
        rcases z1 with z | z
        · exact h _ _ c1 c2 a1 a2 z
        · exact J.tr _ _ _ (h _ _ c1 c2 b1 b2 z) (J.sy _ _ se)
      have k2 : S d e.1 := by
        rcases z2 with z | z
        · exact h _ _ d1 d2 a1 a2 z
        · exact J.tr _ _ _ (h _ _ d1 d2 b1 b2 z) (J.sy _ _ se)
      exact J.tr _ _ _ k1 (J.sy _ _ k2)
theorem jn_names (n : Int) (nm : List Int) : Jn n fun c d => nAt nm c = nAt nm d := ⟨fun _ => rfl, fun _ _ h => h.symm, fun _ _ _ h1 h2 => h1.trans h2⟩
/-- two lists of pairs that join the same -/
def Same2 (n : Int) (X Y : List (Int × Int)) : Prop := ∀ c d, 1 ≤ c → c ≤ n → 1 ≤ d → d ≤ n → (nAt (namesF n X) c = nAt (namesF n X) d ↔ nAt (namesF n Y) c = nAt (namesF n Y) d)
theorem zero_apart {n : Int} {S : Int → Int → Prop} (J : Jn n S) : ∀ c d, 1 ≤ c → c ≤ n → 1 ≤ d → d ≤ n → nAt (names0 n) c = nAt (names0 n) d → S c d := fun c d c1 c2 d1 d2 h => by
  rw [nAt_names0 (by omega) c2, nAt_names0 (by omega) d2] at h
  rw [h]
  exact J.rf d
theorem names0_len' {n : Int} (hn : 0 ≤ n) : ((names0 n).length : Int) = n + 1 := by
  rw [names0_len]
  omega
theorem le_names {n : Int} (hn : 0 ≤ n) {X : List (Int × Int)} (hI : InR n X) {S : Int → Int → Prop} (J : Jn n S) (hS : ∀ e ∈ X, S e.1 e.2) : ∀ c d, 1 ≤ c → c ≤ n → 1 ≤ d → d ≤ n → nAt (namesF n X) c = nAt (namesF n X) d → S c d :=
  nrun_least J (names0_len' hn) hI hS (zero_apart J)
theorem Same2.perm {n : Int} (hn : 0 ≤ n) {X Y : List (Int × Int)} (hX : InR n X) (h : X.Perm Y) : Same2 n X Y := by
  have hY : InR n Y := fun e he => hX e (h.mem_iff.mpr he)
  have one : ∀ {X Y : List (Int × Int)}, InR n X → InR n Y → (∀ e ∈ X, e ∈ Y) → ∀ c d, 1 ≤ c → c ≤ n → 1 ≤ d → d ≤ n → nAt (namesF n X) c = nAt (namesF n X) d → nAt (namesF n Y) c = nAt (namesF n Y) d := fun {X Y} hX hY hs =>
    le_names hn hX (jn_names n (namesF n Y)) fun e he => nrun_in (names0_len' hn) hY e (hs e he)
  exact fun c d c1 c2 d1 d2 => ⟨one hX hY (fun e he => h.mem_iff.mp he) c d c1 c2 d1 d2, one hY hX (fun e he => h.mem_iff.mpr he) c d c1 c2 d1 d2⟩
/-- the pairs of things join what the exchanges join -/
theorem met_join {n : Int} {S : Int → Int → Prop} (J : Jn n S) : ∀ {es : List (Int × Int)} {h : List Int}, Inc n es → Prm n h → (∀ c, 1 ≤ c → c ≤ n → S c (nAt h c)) → ((∀ e ∈ es, S e.1 e.2) ↔ ∀ e ∈ metG h es, S e.1 e.2)
  | [], _, _, _, _ => ⟨fun _ e he => (List.not_mem_nil he).elim, fun _ e he => (List.not_mem_nil he).elim⟩
  | e :: es, h, hI, p, hS => by
    obtain ⟨i1, i2, i3⟩ := hI e List.mem_cons_self
    have su := hS e.1 i1 (by omega)
    have sv := hS e.2 (by omega) i3
    have key : S e.1 e.2 ↔ S (lo2 (nAt h e.1) (nAt h e.2)) (hi2 (nAt h e.1) (nAt h e.2)) := by
      have k0 : S e.1 e.2 ↔ S (nAt h e.1) (nAt h e.2) := ⟨fun z => J.tr _ _ _ (J.sy _ _ su) (J.tr _ _ _ z sv), fun z => J.tr _ _ _ su (J.tr _ _ _ z (J.sy _ _ sv))⟩
      rcases lohi (nAt h e.1) (nAt h e.2) with ⟨e1, e2, _⟩ | ⟨e1, e2, _⟩
      · rw [e1, e2]
        exact k0
      · rw [e1, e2]
        exact k0.trans ⟨J.sy _ _, J.sy _ _⟩
    have next : S e.1 e.2 → ∀ c, 1 ≤ c → c ≤ n → S c (nAt (hStep h e) c) := fun z c c1 c2 => by
      rw [nAt_hStep p.len i1 (by omega) (by omega) i3 (by omega)]
      unfold sw
      split
      · rename_i w
        rw [w]
        exact J.tr _ _ _ (J.sy _ _ z) su
      · split
        · rename_i w
          rw [w]
          exact J.tr _ _ _ z sv
        · exact hS c c1 c2
    constructor
    · intro H f hf
      have z := H e List.mem_cons_self
      rcases List.mem_cons.mp hf with rfl | hf
      · exact key.mp z
      · exact (met_join J (es := es) hI.tail (p.step i1 (by omega) (by omega) i3) (next z)).mp (fun g hg => H g (List.mem_cons_of_mem _ hg)) f hf
    · intro H f hf
      have z := key.mpr (H _ List.mem_cons_self)
      rcases List.mem_cons.mp hf with rfl | hf
      · exact z
      · exact (met_join J (es := es) hI.tail (p.step i1 (by omega) (by omega) i3) (next z)).mpr (fun g hg => H g (List.mem_cons_of_mem _ hg)) f hf
theorem Same2.met {n : Int} (hn : 0 ≤ n) {es : List (Int × Int)} (hI : Inc n es) : Same2 n es (metF n es) := by
  have z0 : ∀ {S : Int → Int → Prop}, Jn n S → ∀ c, 1 ≤ c → c ≤ n → S c (nAt (names0 n) c) := fun J c c1 c2 => by
    rw [nAt_names0 (by omega) c2]
    exact J.rf c
  have hM : InR n (metF n es) := (metG_inc hI (Prm.zero hn)).inR
  have J1 := jn_names n (namesF n es)
  have J2 := jn_names n (namesF n (metF n es))
  exact fun c d c1 c2 d1 d2 => ⟨le_names hn hI.inR J2 ((met_join J2 hI (Prm.zero hn) (z0 J2)).mpr fun e he => nrun_in (names0_len' hn) hM e he) c d c1 c2 d1 d2,
    le_names hn hM J1 ((met_join J1 hI (Prm.zero hn) (z0 J1)).mp fun e he => nrun_in (names0_len' hn) hI.inR e he) c d c1 c2 d1 d2⟩
/-! the number of pieces -/
theorem nm_ok {n : Int} (hn : 0 ≤ n) {X : List (Int × Int)} (hI : Inc n X) : Alike n (namesF n X) (marksF n X) := Alike.all hI (Alike.zero hn)
theorem least_iff {n : Int} {nm mk : List Int} (h : Alike n nm mk) {c : Int} (c1 : 1 ≤ c) (c2 : c ≤ n) : nAt nm c = c ↔ ∀ d, 1 ≤ d → d ≤ n → nAt nm c = nAt nm d → c ≤ d := by
  constructor
  · intro e d d1 d2 z
    have := (h.ge d d1 d2).2
    omega
  · intro H
    have g := h.ge c c1 c2
    have := H (nAt nm c) g.1 (by omega) (h.fix c c1 c2).symm
    omega
theorem Same2.leasts {n : Int} (hn : 0 ≤ n) {X Y : List (Int × Int)} (hX : Inc n X) (hY : Inc n Y) (h : Same2 n X Y) : leasts n (namesF n X) = leasts n (namesF n Y) := by
  unfold Un.leasts
  refine List.filter_congr fun c hc => ?_
  obtain ⟨c1, c2⟩ := mem_cs.mp hc
  refine decide_eq_decide.mpr ?_
  rw [least_iff (nm_ok hn hX) c1 c2, least_iff (nm_ok hn hY) c1 c2]
  exact ⟨fun H d d1 d2 z => H d d1 d2 ((h c d c1 c2 d1 d2).mpr z), fun H d d1 d2 z => H d d1 d2 ((h c d c1 c2 d1 d2).mp z)⟩
theorem filter_weak {p q : Int → Bool} : ∀ {l : List Int}, (∀ x ∈ l, p x = true → q x = true) → (l.filter p).length ≤ (l.filter q).length
  | [], _ => Nat.le_refl _
  | x :: l, h => by
    have r := filter_weak (l := l) fun y hy => h y (List.mem_cons_of_mem _ hy)
    rw [List.filter_cons, List.filter_cons]
    by_cases a : p x = true
    · rw [if_pos a, if_pos (h x List.mem_cons_self a), List.length_cons, List.length_cons]
      omega
    · rw [if_neg a]
      split
      · rw [List.length_cons]
        omega
      · exact r
theorem filter_one {p q : Int → Bool} {r : Int} : ∀ {l : List Int}, l.Pairwise (· < ·) → (∀ x ∈ l, p x = true → q x = true ∨ x = r) → (l.filter p).length ≤ (l.filter q).length + 1
  | [], _, _ => by simp
  | x :: l, ha, h => by
    obtain ⟨h1, h2⟩ := List.pairwise_cons.mp ha
    by_cases e : x = r
    · have w := filter_weak (p := p) (q := q) (l := l) fun y hy py => by
        rcases h y (List.mem_cons_of_mem _ hy) py with z | z
        · exact z
        · have := h1 y hy
          omega
      rw [List.filter_cons, List.filter_cons]
      split <;> split <;> (try rw [List.length_cons]) <;> (try rw [List.length_cons]) <;> omega
    · have r' := filter_one (p := p) (q := q) (r := r) h2 fun y hy => h y (List.mem_cons_of_mem _ hy)
      rw [List.filter_cons, List.filter_cons]
      by_cases a : p x = true
      · rcases h x List.mem_cons_self a with z | z
        · rw [if_pos a, if_pos z, List.length_cons, List.length_cons]
          omega
        · exact absurd z e
      · rw [if_neg a]
        split
        · rw [List.length_cons]
          omega
        · exact r'
theorem leasts_step {n : Int} {nm : List Int} (hl : (nm.length : Int) = n + 1) (e : Int × Int) : (leasts n nm).length ≤ (leasts n (nStep nm e)).length + 1 := by
  unfold leasts
  refine filter_one (r := hi2 (nAt nm e.1) (nAt nm e.2)) (cs_asc n) fun c hc hp => ?_
  obtain ⟨c1, c2⟩ := mem_cs.mp hc
  have z := of_decide_eq_true hp
  by_cases w : c = hi2 (nAt nm e.1) (nAt nm e.2)
  · exact .inr w
  · refine .inl (decide_eq_true ?_)
    rw [nAt_nStep hl e c1 c2, z, if_neg w]
theorem nStep_id {nm : List Int} {e : Int × Int} (h : nAt nm e.1 = nAt nm e.2) : nStep nm e = nm := by
  unfold nStep
  rw [h]
  refine (List.map_congr_left fun x _ => ?_).trans (List.map_id _)
  rcases lohi (nAt nm e.2) (nAt nm e.2) with ⟨e1, e2, _⟩ | ⟨e1, e2, _⟩ <;> rw [e1, e2] <;> (split <;> simp_all)
theorem leasts_run {n : Int} : ∀ {X : List (Int × Int)} {nm : List Int}, (nm.length : Int) = n + 1 → (leasts n nm).length ≤ (leasts n (X.foldl nStep nm)).length + X.length
  | [], _, _ => Nat.le_refl _
  | e :: X, nm, hl => by
    have a := leasts_step hl e
    have b := leasts_run (X := X) (nm := nStep nm e) (by rw [nStep_len]; exact hl)
    show _ ≤ (leasts n (X.foldl nStep (nStep nm e))).length + (X.length + 1)
    omega
theorem leasts_more {n : Int} : ∀ {X : List (Int × Int)} {nm : List Int}, (nm.length : Int) = n + 1 → InR n X → ((∃ e ∈ X, nAt nm e.1 = nAt nm e.2) ∨ ¬ X.Nodup) → (leasts n nm).length + 1 ≤ (leasts n (X.foldl nStep nm)).length + X.length
  | [], _, _, _, h => by
    rcases h with ⟨e, he, _⟩ | h
    · exact (List.not_mem_nil he).elim
    · exact absurd List.nodup_nil h
  | e :: X, nm, hl, hI, h => by
    obtain ⟨a1, a2, b1, b2⟩ := hI e List.mem_cons_self
    have hl1 : ((nStep nm e).length : Int) = n + 1 := by
      rw [nStep_len]
      exact hl
    show _ ≤ (leasts n (X.foldl nStep (nStep nm e))).length + (X.length + 1)
    by_cases r : nAt nm e.1 = nAt nm e.2
    · rw [nStep_id r]
      have := leasts_run (X := X) hl
      omega
    · have st := leasts_step hl e
      have go : ((∃ f ∈ X, nAt (nStep nm e) f.1 = nAt (nStep nm e) f.2) ∨ ¬ X.Nodup) := by
        rcases h with ⟨f, hf, z⟩ | h
        · rcases List.mem_cons.mp hf with rfl | hf
          · exact absurd z r
          · obtain ⟨f1, f2, g1, g2⟩ := hI f (List.mem_cons_of_mem _ hf)
            exact .inl ⟨f, hf, (nStep_eq hl e f1 f2 g1 g2).mpr (.inl z)⟩
        · by_cases m : e ∈ X
          · exact .inl ⟨e, m, (nStep_eq hl e a1 a2 b1 b2).mpr (.inr ⟨.inl rfl, .inr rfl⟩)⟩
          · exact .inr fun nd => h (List.nodup_cons.mpr ⟨m, nd⟩)
      have := leasts_more (X := X) hl1 hI.tail go
      omega
theorem leasts_zero {n : Int} : (leasts n (names0 n)).length = n.toNat := by
  unfold leasts
  rw [List.filter_eq_self.mpr fun c hc => ?_, cs_len]
  obtain ⟨c1, c2⟩ := mem_cs.mp hc
  exact decide_eq_true (nAt_names0 (by omega) c2)
theorem pcs_len (n : Int) (X : List (Int × Int)) : (pcsF n X).length = (leasts n (namesF n X)).length := by
  unfold pcsF
  rw [List.length_map]
/-- in a tree the things that meet are a tree -/
theorem met_tree {n : Int} (hn : 1 ≤ n) {web es : List (Int × Int)} (hI : Inc n es) (pm : es.Perm web) (hl : (web.length : Int) = n - 1) (hp : (pcsF n web).length = 1) {L : List (Int × Int)} (hL : L.Perm (metF n es)) :
    (metF n es).Nodup ∧ (L.length : Int) = n - 1 ∧ (pcsF n L).length = 1 := by
  have hw : Inc n web := fun e he => hI e (pm.mem_iff.mpr he)
  have hM : Inc n (metF n es) := metG_inc hI (Prm.zero (by omega))
  have hLi : Inc n L := fun e he => hM e (hL.mem_iff.mp he)
  have e1 := (Same2.perm (by omega) hI.inR pm).leasts (by omega) hI hw
  have e2 := (Same2.met (by omega) hI).leasts (by omega) hI hM
  have e3 := (Same2.perm (by omega) hLi.inR hL).leasts (by omega) hLi hM
  rw [pcs_len] at hp
  have lm : (metF n es).length = web.length := (metG_len _ _).trans pm.length_eq
  refine ⟨?_, ?_, ?_⟩
  · refine Decidable.byContradiction fun nd => ?_
    have z := leasts_more (names0_len' (by omega)) hM.inR (.inr nd)
    have z1 : (leasts n ((metF n es).foldl nStep (names0 n))).length = 1 := by
      show (leasts n (namesF n (metF n es))).length = 1
      rw [← e2, e1]
      exact hp
    rw [z1, leasts_zero, lm] at z
    omega
  · rw [hL.length_eq, lm]
    exact hl
  · rw [pcs_len, e3, ← e2, e1]
    exact hp
end Un

set_option maxRecDepth 100000
set_option maxHeartbeats 8000000
namespace Un
open PySem PySem.Spec PyProof.Rows L2
/-! ### names and pieces: what comes out -/
theorem atI_int {ns : List Int} {c : Int} (h0 : 0 ≤ c) (h : c < ns.length) : atI (ns.map PyData.int) c = some (.int (nAt ns c)) := by
  have hc : c.toNat < ns.length := by omega
  have e : ((c.toNat : Nat) : Int) = c := by omega
  have g : (ns.map PyData.int)[c.toNat]? = some (.int (nAt ns c)) := by
    unfold nAt
    rw [List.getElem?_map, List.getElem?_eq_getElem hc, List.getD_eq_getElem?_getD, List.getElem?_eq_getElem hc] <;> rfl
  have r := atI_d g
  rw [e] at r
  exact r
theorem rngD_names0 (n : Int) : rngD 0 (n + 1) = (names0 n).map PyData.int := by
  unfold rngD names0
  rw [List.map_map]
  have e : n + 1 - 0 = n + 1 := by omega
  rw [e]
  refine List.map_congr_left fun i _ => ?_
  show PyData.int (0 + (i : Int)) = PyData.int (i : Int)
  rw [Int.zero_add]
theorem rngL_cs (n : Int) : rngL 1 (n + 1 - 1).toNat = (cs n).map fun c => ((.int c, true) : PB) := by
  unfold rngL cs
  rw [List.map_map, show n + 1 - 1 = n by omega] <;> rfl
/-- joining: the exchanges that join two pieces -/
def jStep (s : List Int × List (Int × Int)) (e : Int × Int) : List Int × List (Int × Int) := (nStep s.1 e, if nAt s.1 e.1 = nAt s.1 e.2 then s.2 else s.2 ++ [e])
def joinF (n : Int) (es : List (Int × Int)) : List (Int × Int) := (es.foldl jStep (names0 n, [])).2
theorem jStep_fst : ∀ (es : List (Int × Int)) (s : List Int × List (Int × Int)), (es.foldl jStep s).1 = es.foldl nStep s.1
  | [], _ => rfl
  | e :: es, s => jStep_fst es (jStep s e)
abbrev names_st (n : Int) (W : List PyData) (s : List Int × List (Int × Int)) (ρ : RhoS) : Prop := ∃ j4 j5 j6 j7 j8 : En, ρ = [.fz (.int n, true), .fz (.list W, false), .ow (s.1.map PyData.int) true, .ow (s.2.map dP) true, j4, j5, j6, j7, j8] ∧ (s.1.length : Int) = n + 1
theorem names_mk {n : Int} {W A B : List PyData} {s : List Int × List (Int × Int)} {j4 j5 j6 j7 j8 : En} (hA : A = s.1.map PyData.int) (hB : B = s.2.map dP) (h1 : (s.1.length : Int) = n + 1) :
    names_st n W s [.fz (.int n, true), .fz (.list W, false), .ow A true, .ow B true, j4, j5, j6, j7, j8] := ⟨j4, j5, j6, j7, j8, by rw [hA, hB], h1⟩
theorem names_turn {n : Int} (n1 : 1 ≤ n) (n16 : n ≤ 16) {W : List PyData} {s : List Int × List (Int × Int)} {e : Int × Int} (i1 : 1 ≤ e.1) (i2 : e.1 < e.2) (i3 : e.2 ≤ n) (l2 : s.2.length < 100000) {ρ : RhoS} (h : names_st n W s ρ) :
    TurnOk (.tp [4, 5]) a_names_and_joining_1 (dP e, nol (dP e)) ρ (names_st n W (jStep s e)) := by
  obtain ⟨j4, j5, j6, j7, j8, rfl, h1⟩ := h
  have g1 := atI_int (ns := s.1) (c := e.1) (by omega) (by omega)
  have g2 := atI_int (ns := s.1) (c := e.2) (by omega) (by omega)
  have l1 : s.1.length ≤ 100000 := by omega
  unfold a_names_and_joining_1
  by_cases c : nAt s.1 e.1 = nAt s.1 e.2
  · simp only [execs_nil, execs_one, execs_cons, nxt_nx, nxt_rt, nxt_br, nxt_ct, exec_asg, exec_ret, exec_retN, exec_ifs, exec_for, exec_whl, exec_brk, exec_cnt, exec_pas, exec_app, exec_par, exec_aug, ev_var, getR_view, vwAt_fz, vwAt_ow, frz_go, frzA_nil, frzA_any, frAt_fz, frAt_no, frAt_ow, ev_int, ev_bool, ev_none, ev_dic0, ev_str, ev_bin, ev_un, boolK_t, boolK_f, boolK_b, ev_and, ev_or, notK_b, ev_not, ev_ife, ev_chn, ev_tup, ev_lst, ev_sl, ev_rev, ev_cb, lrK_i, ev_lrg1, ev_lrg2, ev_call, ev_kcall, ev_lc, evs_nil, evs_cons, evP_no, intK_i, evP_at, evQ_no, evQ_at, tstK_b, evT_val, evT_and, evT_or, evT_not, fl_t, fl_f, fl_i, fl_b, fl_n, fl_s, fl_l, fl_u, pb_mk, asg_i, asg_b, asg_s, asg_n, asg_l, asg_o, asg_u, asg_tp, setTs_nil, setTs_cons, bindTs_nil, bindTs_cons, bindS_nm, bindS_tp, bindT_nm, bindT_tp, app_i, app_b, app_l, app_u, appP_go, appE_ow, add_i, add_l, sub_i, mul_i, mul_lb, mul_tb, mul_ib, mod_i, fdiv_i, eq_i, ne_i, lt_i, le_i, gt_i, ge_i, in_u, notin_u, isN_d, notN_d, ix_l, ix_u, neg_i, len_l, len_u, min2_i, max2_i, int_i, int_b, list_l, list_u, tuple_l, tuple_u, abs_i, sum_l, any_l, all_l, src_l, src_u, src_1, src_2, src_e, src_z, isRng, vE, vEs, vP, vQ, vT, List.length_cons, List.length_nil, List.length_map, List.map_cons, List.map_nil, List.cons_append, List.nil_append, List.append_nil, List.replicate, List.getElem?_cons_zero, List.getElem?_cons_succ, List.set_cons_zero, List.set_cons_succ, bnd_s, bnd_n, Bool.and_true, Bool.true_and, Bool.or_true, Bool.true_or, Bool.or_false, Bool.false_or, Bool.and_false, Bool.false_and, Bool.not_true, Bool.not_false, cnd_t, cnd_f, List.all_cons, List.all_nil, nolA, nol, wipeR, tgIn, List.contains_cons, List.contains_nil, Nat.reduceBEq, Nat.reduceAdd, Nat.reduceSub, Nat.reduceLeDiff, decide_true, decide_false, permL, List.filterMap_cons, List.filterMap_nil, okTo_nx, turn_iff, List.map_map, getR_set, view_len, List.length_set, Nat.reduceLT, all_tt, comp_d, all_mp, ev_lzip, lz_l, ev_idx, ev_lc2, vwAt_od, frAt_od, frAt_nil, exec_set2, exec_setS, evS_go, setI_go, setE_ow, isSc_i, isSc_b, isSc_s, isSc_n, isSc_l, isSc_u, dP, g1, g2, decide_eq_true c]
    unfold jStep
    rw [if_pos c, nStep_id c]
    exact names_mk rfl rfl h1
  · simp only [execs_nil, execs_one, execs_cons, nxt_nx, nxt_rt, nxt_br, nxt_ct, exec_asg, exec_ret, exec_retN, exec_ifs, exec_for, exec_whl, exec_brk, exec_cnt, exec_pas, exec_app, exec_par, exec_aug, ev_var, getR_view, vwAt_fz, vwAt_ow, frz_go, frzA_nil, frzA_any, frAt_fz, frAt_no, frAt_ow, ev_int, ev_bool, ev_none, ev_dic0, ev_str, ev_bin, ev_un, boolK_t, boolK_f, boolK_b, ev_and, ev_or, notK_b, ev_not, ev_ife, ev_chn, ev_tup, ev_lst, ev_sl, ev_rev, ev_cb, lrK_i, ev_lrg1, ev_lrg2, ev_call, ev_kcall, ev_lc, evs_nil, evs_cons, evP_no, intK_i, evP_at, evQ_no, evQ_at, tstK_b, evT_val, evT_and, evT_or, evT_not, fl_t, fl_f, fl_i, fl_b, fl_n, fl_s, fl_l, fl_u, pb_mk, asg_i, asg_b, asg_s, asg_n, asg_l, asg_o, asg_u, asg_tp, setTs_nil, setTs_cons, bindTs_nil, bindTs_cons, bindS_nm, bindS_tp, bindT_nm, bindT_tp, app_i, app_b, app_l, app_u, appP_go, appE_ow, add_i, add_l, sub_i, mul_i, mul_lb, mul_tb, mul_ib, mod_i, fdiv_i, eq_i, ne_i, lt_i, le_i, gt_i, ge_i, in_u, notin_u, isN_d, notN_d, ix_l, ix_u, neg_i, len_l, len_u, min2_i, max2_i, int_i, int_b, list_l, list_u, tuple_l, tuple_u, abs_i, sum_l, any_l, all_l, src_l, src_u, src_1, src_2, src_e, src_z, isRng, vE, vEs, vP, vQ, vT, List.length_cons, List.length_nil, List.length_map, List.map_cons, List.map_nil, List.cons_append, List.nil_append, List.append_nil, List.replicate, List.getElem?_cons_zero, List.getElem?_cons_succ, List.set_cons_zero, List.set_cons_succ, bnd_s, bnd_n, Bool.and_true, Bool.true_and, Bool.or_true, Bool.true_or, Bool.or_false, Bool.false_or, Bool.and_false, Bool.false_and, Bool.not_true, Bool.not_false, cnd_t, cnd_f, List.all_cons, List.all_nil, nolA, nol, wipeR, tgIn, List.contains_cons, List.contains_nil, Nat.reduceBEq, Nat.reduceAdd, Nat.reduceSub, Nat.reduceLeDiff, decide_true, decide_false, permL, List.filterMap_cons, List.filterMap_nil, okTo_nx, turn_iff, List.map_map, getR_set, view_len, List.length_set, Nat.reduceLT, all_tt, comp_d, all_mp, ev_lzip, lz_l, ev_idx, ev_lc2, vwAt_od, frAt_od, frAt_nil, exec_set2, exec_setS, evS_go, setI_go, setE_ow, isSc_i, isSc_b, isSc_s, isSc_n, isSc_l, isSc_u, dP, g1, g2, decide_eq_false c]
    rw [lcE_all (fun m => (.int (if m = hi2 (nAt s.1 e.1) (nAt s.1 e.2) then lo2 (nAt s.1 e.1) (nAt s.1 e.2) else m), true)) s.1 ?_]
    · simp only [execs_nil, execs_one, execs_cons, nxt_nx, nxt_rt, nxt_br, nxt_ct, exec_asg, exec_ret, exec_retN, exec_ifs, exec_for, exec_whl, exec_brk, exec_cnt, exec_pas, exec_app, exec_par, exec_aug, ev_var, getR_view, vwAt_fz, vwAt_ow, frz_go, frzA_nil, frzA_any, frAt_fz, frAt_no, frAt_ow, ev_int, ev_bool, ev_none, ev_dic0, ev_str, ev_bin, ev_un, boolK_t, boolK_f, boolK_b, ev_and, ev_or, notK_b, ev_not, ev_ife, ev_chn, ev_tup, ev_lst, ev_sl, ev_rev, ev_cb, lrK_i, ev_lrg1, ev_lrg2, ev_call, ev_kcall, ev_lc, evs_nil, evs_cons, evP_no, intK_i, evP_at, evQ_no, evQ_at, tstK_b, evT_val, evT_and, evT_or, evT_not, fl_t, fl_f, fl_i, fl_b, fl_n, fl_s, fl_l, fl_u, pb_mk, asg_i, asg_b, asg_s, asg_n, asg_l, asg_o, asg_u, asg_tp, setTs_nil, setTs_cons, bindTs_nil, bindTs_cons, bindS_nm, bindS_tp, bindT_nm, bindT_tp, app_i, app_b, app_l, app_u, appP_go, appE_ow, add_i, add_l, sub_i, mul_i, mul_lb, mul_tb, mul_ib, mod_i, fdiv_i, eq_i, ne_i, lt_i, le_i, gt_i, ge_i, in_u, notin_u, isN_d, notN_d, ix_l, ix_u, neg_i, len_l, len_u, min2_i, max2_i, int_i, int_b, list_l, list_u, tuple_l, tuple_u, abs_i, sum_l, any_l, all_l, src_l, src_u, src_1, src_2, src_e, src_z, isRng, vE, vEs, vP, vQ, vT, List.length_cons, List.length_nil, List.length_map, List.map_cons, List.map_nil, List.cons_append, List.nil_append, List.append_nil, List.replicate, List.getElem?_cons_zero, List.getElem?_cons_succ, List.set_cons_zero, List.set_cons_succ, bnd_s, bnd_n, Bool.and_true, Bool.true_and, Bool.or_true, Bool.true_or, Bool.or_false, Bool.false_or, Bool.and_false, Bool.false_and, Bool.not_true, Bool.not_false, cnd_t, cnd_f, List.all_cons, List.all_nil, nolA, nol, wipeR, tgIn, List.contains_cons, List.contains_nil, Nat.reduceBEq, Nat.reduceAdd, Nat.reduceSub, Nat.reduceLeDiff, decide_true, decide_false, permL, List.filterMap_cons, List.filterMap_nil, okTo_nx, turn_iff, List.map_map, getR_set, view_len, List.length_set, Nat.reduceLT, all_tt, comp_d, all_mp, ev_lzip, lz_l, ev_idx, ev_lc2, vwAt_od, frAt_od, frAt_nil, exec_set2, exec_setS, evS_go, setI_go, setE_ow, isSc_i, isSc_b, isSc_s, isSc_n, isSc_l, isSc_u, decide_eq_true l1, decide_eq_true l2]
      unfold jStep
      rw [if_neg c]
      refine names_mk ?_ ?_ ?_
      · show List.map _ s.1 = List.map _ (nStep s.1 e)
        unfold nStep
        rw [List.map_map] <;> rfl
      · rw [List.map_append] <;> rfl
      · show ((nStep s.1 e).length : Int) = _
        rw [nStep_len]
        exact h1
    · intro m _
      refine item_ok rfl rfl fun _ => ?_
      simp only [execs_nil, execs_one, execs_cons, nxt_nx, nxt_rt, nxt_br, nxt_ct, exec_asg, exec_ret, exec_retN, exec_ifs, exec_for, exec_whl, exec_brk, exec_cnt, exec_pas, exec_app, exec_par, exec_aug, ev_var, getR_view, vwAt_fz, vwAt_ow, frz_go, frzA_nil, frzA_any, frAt_fz, frAt_no, frAt_ow, ev_int, ev_bool, ev_none, ev_dic0, ev_str, ev_bin, ev_un, boolK_t, boolK_f, boolK_b, ev_and, ev_or, notK_b, ev_not, ev_ife, ev_chn, ev_tup, ev_lst, ev_sl, ev_rev, ev_cb, lrK_i, ev_lrg1, ev_lrg2, ev_call, ev_kcall, ev_lc, evs_nil, evs_cons, evP_no, intK_i, evP_at, evQ_no, evQ_at, tstK_b, evT_val, evT_and, evT_or, evT_not, fl_t, fl_f, fl_i, fl_b, fl_n, fl_s, fl_l, fl_u, pb_mk, asg_i, asg_b, asg_s, asg_n, asg_l, asg_o, asg_u, asg_tp, setTs_nil, setTs_cons, bindTs_nil, bindTs_cons, bindS_nm, bindS_tp, bindT_nm, bindT_tp, app_i, app_b, app_l, app_u, appP_go, appE_ow, add_i, add_l, sub_i, mul_i, mul_lb, mul_tb, mul_ib, mod_i, fdiv_i, eq_i, ne_i, lt_i, le_i, gt_i, ge_i, in_u, notin_u, isN_d, notN_d, ix_l, ix_u, neg_i, len_l, len_u, min2_i, max2_i, int_i, int_b, list_l, list_u, tuple_l, tuple_u, abs_i, sum_l, any_l, all_l, src_l, src_u, src_1, src_2, src_e, src_z, isRng, vE, vEs, vP, vQ, vT, List.length_cons, List.length_nil, List.length_map, List.map_cons, List.map_nil, List.cons_append, List.nil_append, List.append_nil, List.replicate, List.getElem?_cons_zero, List.getElem?_cons_succ, List.set_cons_zero, List.set_cons_succ, bnd_s, bnd_n, Bool.and_true, Bool.true_and, Bool.or_true, Bool.true_or, Bool.or_false, Bool.false_or, Bool.and_false, Bool.false_and, Bool.not_true, Bool.not_false, cnd_t, cnd_f, List.all_cons, List.all_nil, nolA, nol, wipeR, tgIn, List.contains_cons, List.contains_nil, Nat.reduceBEq, Nat.reduceAdd, Nat.reduceSub, Nat.reduceLeDiff, decide_true, decide_false, permL, List.filterMap_cons, List.filterMap_nil, okTo_nx, turn_iff, List.map_map, getR_set, view_len, List.length_set, Nat.reduceLT, all_tt, comp_d, all_mp, ev_lzip, lz_l, ev_idx, ev_lc2, vwAt_od, frAt_od, frAt_nil, exec_set2, exec_setS, evS_go, setI_go, setE_ow, isSc_i, isSc_b, isSc_s, isSc_n, isSc_l, isSc_u]
      show ((bif decide (m = hi2 (nAt s.1 e.1) (nAt s.1 e.2)) then _ else _) : Option Rs).bind _ = _
      by_cases hm : m = hi2 (nAt s.1 e.1) (nAt s.1 e.2)
      · rw [decide_eq_true hm, if_pos hm] <;> rfl
      · rw [decide_eq_false hm, if_neg hm] <;> rfl
theorem jrun_len : ∀ (es : List (Int × Int)) (s : List Int × List (Int × Int)), (es.foldl jStep s).2.length ≤ s.2.length + es.length
  | [], s => Nat.le_refl _
  | e :: es, s => by
    have h := jrun_len es (jStep s e)
    have h2 : (jStep s e).2.length ≤ s.2.length + 1 := by
      unfold jStep
      dsimp only
      split
      · omega
      · rw [List.length_append]
        exact Nat.le_refl _
    rw [List.foldl_cons, List.length_cons]
    omega
theorem take_step {α β : Type} {f : β → α → β} {x : β} {es : List α} {i : Nat} {a : α} (h : es[i]? = some a) : (es.take (i + 1)).foldl f x = f ((es.take i).foldl f x) a := by
  rw [List.take_succ, h, List.foldl_append] <;> rfl
theorem run_names {n : Int} (n1 : 1 ≤ n) (n16 : n ≤ 16) {es : List (Int × Int)} (hI : Inc n es) (hl : es.length ≤ 1000) :
    fn_names_and_joining [.int n, .list (es.map dP)] = some (.tuple [.list ((namesF n es).map PyData.int), .list ((joinF n es).map dP)], true) := by
  refine runZ_go rfl ?_
  have r0 := rgB_small (a := 0) (b := n + 1) (by omega) (by omega) (by omega) (by omega)
  obtain ⟨ρ', e1, i1⟩ := forE_ix (tg := .tp [4, 5]) (b := a_names_and_joining_1) (g := fun e => (dP e, nol (dP e))) (items := es) (fun i ρ => names_st n (es.map dP) ((es.take i).foldl jStep (names0 n, [])) ρ)
    (fun i e ρ hi h => by
      have hm := hI e (List.mem_of_getElem? hi)
      have q := names_turn n1 n16 hm.1 hm.2.1 hm.2.2 (by
        have := jrun_len (es.take i) (names0 n, [])
        rw [List.length_take] at this
        have z : ([] : List (Int × Int)).length = 0 := rfl
        have z2 : (names0 n, ([] : List (Int × Int))).2.length = 0 := rfl
        omega) h
      rw [← take_step (f := jStep) (x := (names0 n, [])) hi] at q
      exact q)
    [.fz (.int n, true), .fz (.list (es.map dP), false), .ow ((names0 n).map PyData.int) true, .ow [] true, .no, .no, .no, .no, .no] ⟨_, _, _, _, _, rfl, names0_len' (by omega)⟩
  unfold a_names_and_joining
  obtain ⟨j4, j5, j6, j7, j8, rfl, h1⟩ := i1
  rw [List.take_length] at e1 h1
  simp only [execs_nil, execs_one, execs_cons, nxt_nx, nxt_rt, nxt_br, nxt_ct, exec_asg, exec_ret, exec_retN, exec_ifs, exec_for, exec_whl, exec_brk, exec_cnt, exec_pas, exec_app, exec_par, exec_aug, ev_var, getR_view, vwAt_fz, vwAt_ow, frz_go, frzA_nil, frzA_any, frAt_fz, frAt_no, frAt_ow, ev_int, ev_bool, ev_none, ev_dic0, ev_str, ev_bin, ev_un, boolK_t, boolK_f, boolK_b, ev_and, ev_or, notK_b, ev_not, ev_ife, ev_chn, ev_tup, ev_lst, ev_sl, ev_rev, ev_cb, lrK_i, ev_lrg1, ev_lrg2, ev_call, ev_kcall, ev_lc, evs_nil, evs_cons, evP_no, intK_i, evP_at, evQ_no, evQ_at, tstK_b, evT_val, evT_and, evT_or, evT_not, fl_t, fl_f, fl_i, fl_b, fl_n, fl_s, fl_l, fl_u, pb_mk, asg_i, asg_b, asg_s, asg_n, asg_l, asg_o, asg_u, asg_tp, setTs_nil, setTs_cons, bindTs_nil, bindTs_cons, bindS_nm, bindS_tp, bindT_nm, bindT_tp, app_i, app_b, app_l, app_u, appP_go, appE_ow, add_i, add_l, sub_i, mul_i, mul_lb, mul_tb, mul_ib, mod_i, fdiv_i, eq_i, ne_i, lt_i, le_i, gt_i, ge_i, in_u, notin_u, isN_d, notN_d, ix_l, ix_u, neg_i, len_l, len_u, min2_i, max2_i, int_i, int_b, list_l, list_u, tuple_l, tuple_u, abs_i, sum_l, any_l, all_l, src_l, src_u, src_1, src_2, src_e, src_z, isRng, vE, vEs, vP, vQ, vT, List.length_cons, List.length_nil, List.length_map, List.map_cons, List.map_nil, List.cons_append, List.nil_append, List.append_nil, List.replicate, List.getElem?_cons_zero, List.getElem?_cons_succ, List.set_cons_zero, List.set_cons_succ, bnd_s, bnd_n, Bool.and_true, Bool.true_and, Bool.or_true, Bool.true_or, Bool.or_false, Bool.false_or, Bool.and_false, Bool.false_and, Bool.not_true, Bool.not_false, cnd_t, cnd_f, List.all_cons, List.all_nil, nolA, nol, wipeR, tgIn, List.contains_cons, List.contains_nil, Nat.reduceBEq, Nat.reduceAdd, Nat.reduceSub, Nat.reduceLeDiff, decide_true, decide_false, permL, List.filterMap_cons, List.filterMap_nil, okTo_nx, turn_iff, List.map_map, getR_set, view_len, List.length_set, Nat.reduceLT, all_tt, comp_d, all_mp, ev_lzip, lz_l, ev_idx, ev_lc2, vwAt_od, frAt_od, frAt_nil, exec_set2, exec_setS, evS_go, setI_go, setE_ow, isSc_i, isSc_b, isSc_s, isSc_n, isSc_l, isSc_u, r0, rngD_names0, e1, Nat.zero_le]
  rw [show (es.foldl jStep (names0 n, [])).1 = namesF n es from jStep_fst es _] <;> rfl
theorem nam_len {n : Int} (hn : 0 ≤ n) (es : List (Int × Int)) : ((namesF n es).length : Int) = n + 1 := by
  unfold namesF
  rw [nrun_len]
  exact names0_len' hn
theorem nam_at {n : Int} (hn : 0 ≤ n) (es : List (Int × Int)) {c : Int} (c1 : 0 ≤ c) (c2 : c ≤ n) : atI ((namesF n es).map PyData.int) c = some (.int (nAt (namesF n es) c)) :=
  atI_int c1 (by have := nam_len hn es; omega)
theorem cs_len' {n : Int} (n16 : n ≤ 16) (p : Int → Bool) : ((cs n).filter p).length ≤ 100000 := by
  have h1 := List.length_filter_le p (cs n)
  rw [cs_len] at h1
  omega
theorem run_joining {n : Int} (n1 : 1 ≤ n) (n16 : n ≤ 16) {es : List (Int × Int)} (hI : Inc n es) (hl : es.length ≤ 1000) :
    fn_joining_of [.int n, .list (es.map dP)] = some (.list ((joinF n es).map dP), true) := by
  refine runZ_go rfl ?_
  unfold a_joining_of
  simp only [execs_nil, execs_one, execs_cons, nxt_nx, nxt_rt, nxt_br, nxt_ct, exec_asg, exec_ret, exec_retN, exec_ifs, exec_for, exec_whl, exec_brk, exec_cnt, exec_pas, exec_app, exec_par, exec_aug, ev_var, getR_view, vwAt_fz, vwAt_ow, frz_go, frzA_nil, frzA_any, frAt_fz, frAt_no, frAt_ow, ev_int, ev_bool, ev_none, ev_dic0, ev_str, ev_bin, ev_un, boolK_t, boolK_f, boolK_b, ev_and, ev_or, notK_b, ev_not, ev_ife, ev_chn, ev_tup, ev_lst, ev_sl, ev_rev, ev_cb, lrK_i, ev_lrg1, ev_lrg2, ev_call, ev_kcall, ev_lc, evs_nil, evs_cons, evP_no, intK_i, evP_at, evQ_no, evQ_at, tstK_b, evT_val, evT_and, evT_or, evT_not, fl_t, fl_f, fl_i, fl_b, fl_n, fl_s, fl_l, fl_u, pb_mk, asg_i, asg_b, asg_s, asg_n, asg_l, asg_o, asg_u, asg_tp, setTs_nil, setTs_cons, bindTs_nil, bindTs_cons, bindS_nm, bindS_tp, bindT_nm, bindT_tp, app_i, app_b, app_l, app_u, appP_go, appE_ow, add_i, add_l, sub_i, mul_i, mul_lb, mul_tb, mul_ib, mod_i, fdiv_i, eq_i, ne_i, lt_i, le_i, gt_i, ge_i, in_u, notin_u, isN_d, notN_d, ix_l, ix_u, neg_i, len_l, len_u, min2_i, max2_i, int_i, int_b, list_l, list_u, tuple_l, tuple_u, abs_i, sum_l, any_l, all_l, src_l, src_u, src_1, src_2, src_e, src_z, isRng, vE, vEs, vP, vQ, vT, List.length_cons, List.length_nil, List.length_map, List.map_cons, List.map_nil, List.cons_append, List.nil_append, List.append_nil, List.replicate, List.getElem?_cons_zero, List.getElem?_cons_succ, List.set_cons_zero, List.set_cons_succ, bnd_s, bnd_n, Bool.and_true, Bool.true_and, Bool.or_true, Bool.true_or, Bool.or_false, Bool.false_or, Bool.and_false, Bool.false_and, Bool.not_true, Bool.not_false, cnd_t, cnd_f, List.all_cons, List.all_nil, nolA, nol, wipeR, tgIn, List.contains_cons, List.contains_nil, Nat.reduceBEq, Nat.reduceAdd, Nat.reduceSub, Nat.reduceLeDiff, decide_true, decide_false, permL, List.filterMap_cons, List.filterMap_nil, okTo_nx, turn_iff, List.map_map, getR_set, view_len, List.length_set, Nat.reduceLT, all_tt, comp_d, all_mp, ev_lzip, lz_l, ev_idx, ev_lc2, vwAt_od, frAt_od, frAt_nil, exec_set2, exec_setS, evS_go, setI_go, setE_ow, isSc_i, isSc_b, isSc_s, isSc_n, isSc_l, isSc_u, run_names n1 n16 hI hl]
theorem run_tree {n : Int} (n1 : 1 ≤ n) (n16 : n ≤ 16) {es : List (Int × Int)} (hI : Inc n es) (hl : es.length ≤ 1000) :
    fn_forms_tree [.int n, .list (es.map dP)] = some (.bool (decide ((es.length : Int) = n - 1) && decide (n - 1 = ((joinF n es).length : Int))), true) := by
  refine runZ_go rfl ?_
  unfold a_forms_tree
  simp only [execs_nil, execs_one, execs_cons, nxt_nx, nxt_rt, nxt_br, nxt_ct, exec_asg, exec_ret, exec_retN, exec_ifs, exec_for, exec_whl, exec_brk, exec_cnt, exec_pas, exec_app, exec_par, exec_aug, ev_var, getR_view, vwAt_fz, vwAt_ow, frz_go, frzA_nil, frzA_any, frAt_fz, frAt_no, frAt_ow, ev_int, ev_bool, ev_none, ev_dic0, ev_str, ev_bin, ev_un, boolK_t, boolK_f, boolK_b, ev_and, ev_or, notK_b, ev_not, ev_ife, ev_chn, ev_tup, ev_lst, ev_sl, ev_rev, ev_cb, lrK_i, ev_lrg1, ev_lrg2, ev_call, ev_kcall, ev_lc, evs_nil, evs_cons, evP_no, intK_i, evP_at, evQ_no, evQ_at, tstK_b, evT_val, evT_and, evT_or, evT_not, fl_t, fl_f, fl_i, fl_b, fl_n, fl_s, fl_l, fl_u, pb_mk, asg_i, asg_b, asg_s, asg_n, asg_l, asg_o, asg_u, asg_tp, setTs_nil, setTs_cons, bindTs_nil, bindTs_cons, bindS_nm, bindS_tp, bindT_nm, bindT_tp, app_i, app_b, app_l, app_u, appP_go, appE_ow, add_i, add_l, sub_i, mul_i, mul_lb, mul_tb, mul_ib, mod_i, fdiv_i, eq_i, ne_i, lt_i, le_i, gt_i, ge_i, in_u, notin_u, isN_d, notN_d, ix_l, ix_u, neg_i, len_l, len_u, min2_i, max2_i, int_i, int_b, list_l, list_u, tuple_l, tuple_u, abs_i, sum_l, any_l, all_l, src_l, src_u, src_1, src_2, src_e, src_z, isRng, vE, vEs, vP, vQ, vT, List.length_cons, List.length_nil, List.length_map, List.map_cons, List.map_nil, List.cons_append, List.nil_append, List.append_nil, List.replicate, List.getElem?_cons_zero, List.getElem?_cons_succ, List.set_cons_zero, List.set_cons_succ, bnd_s, bnd_n, Bool.and_true, Bool.true_and, Bool.or_true, Bool.true_or, Bool.or_false, Bool.false_or, Bool.and_false, Bool.false_and, Bool.not_true, Bool.not_false, cnd_t, cnd_f, List.all_cons, List.all_nil, nolA, nol, wipeR, tgIn, List.contains_cons, List.contains_nil, Nat.reduceBEq, Nat.reduceAdd, Nat.reduceSub, Nat.reduceLeDiff, decide_true, decide_false, permL, List.filterMap_cons, List.filterMap_nil, okTo_nx, turn_iff, List.map_map, getR_set, view_len, List.length_set, Nat.reduceLT, all_tt, comp_d, all_mp, ev_lzip, lz_l, ev_idx, ev_lc2, vwAt_od, frAt_od, frAt_nil, exec_set2, exec_setS, evS_go, setI_go, setE_ow, isSc_i, isSc_b, isSc_s, isSc_n, isSc_l, isSc_u, run_joining n1 n16 hI hl]
  by_cases c : (es.length : Int) = n - 1
  · simp only [execs_nil, execs_one, execs_cons, nxt_nx, nxt_rt, nxt_br, nxt_ct, exec_asg, exec_ret, exec_retN, exec_ifs, exec_for, exec_whl, exec_brk, exec_cnt, exec_pas, exec_app, exec_par, exec_aug, ev_var, getR_view, vwAt_fz, vwAt_ow, frz_go, frzA_nil, frzA_any, frAt_fz, frAt_no, frAt_ow, ev_int, ev_bool, ev_none, ev_dic0, ev_str, ev_bin, ev_un, boolK_t, boolK_f, boolK_b, ev_and, ev_or, notK_b, ev_not, ev_ife, ev_chn, ev_tup, ev_lst, ev_sl, ev_rev, ev_cb, lrK_i, ev_lrg1, ev_lrg2, ev_call, ev_kcall, ev_lc, evs_nil, evs_cons, evP_no, intK_i, evP_at, evQ_no, evQ_at, tstK_b, evT_val, evT_and, evT_or, evT_not, fl_t, fl_f, fl_i, fl_b, fl_n, fl_s, fl_l, fl_u, pb_mk, asg_i, asg_b, asg_s, asg_n, asg_l, asg_o, asg_u, asg_tp, setTs_nil, setTs_cons, bindTs_nil, bindTs_cons, bindS_nm, bindS_tp, bindT_nm, bindT_tp, app_i, app_b, app_l, app_u, appP_go, appE_ow, add_i, add_l, sub_i, mul_i, mul_lb, mul_tb, mul_ib, mod_i, fdiv_i, eq_i, ne_i, lt_i, le_i, gt_i, ge_i, in_u, notin_u, isN_d, notN_d, ix_l, ix_u, neg_i, len_l, len_u, min2_i, max2_i, int_i, int_b, list_l, list_u, tuple_l, tuple_u, abs_i, sum_l, any_l, all_l, src_l, src_u, src_1, src_2, src_e, src_z, isRng, vE, vEs, vP, vQ, vT, List.length_cons, List.length_nil, List.length_map, List.map_cons, List.map_nil, List.cons_append, List.nil_append, List.append_nil, List.replicate, List.getElem?_cons_zero, List.getElem?_cons_succ, List.set_cons_zero, List.set_cons_succ, bnd_s, bnd_n, Bool.and_true, Bool.true_and, Bool.or_true, Bool.true_or, Bool.or_false, Bool.false_or, Bool.and_false, Bool.false_and, Bool.not_true, Bool.not_false, cnd_t, cnd_f, List.all_cons, List.all_nil, nolA, nol, wipeR, tgIn, List.contains_cons, List.contains_nil, Nat.reduceBEq, Nat.reduceAdd, Nat.reduceSub, Nat.reduceLeDiff, decide_true, decide_false, permL, List.filterMap_cons, List.filterMap_nil, okTo_nx, turn_iff, List.map_map, getR_set, view_len, List.length_set, Nat.reduceLT, all_tt, comp_d, all_mp, ev_lzip, lz_l, ev_idx, ev_lc2, vwAt_od, frAt_od, frAt_nil, exec_set2, exec_setS, evS_go, setI_go, setE_ow, isSc_i, isSc_b, isSc_s, isSc_n, isSc_l, isSc_u, decide_eq_true c]
  · simp only [execs_nil, execs_one, execs_cons, nxt_nx, nxt_rt, nxt_br, nxt_ct, exec_asg, exec_ret, exec_retN, exec_ifs, exec_for, exec_whl, exec_brk, exec_cnt, exec_pas, exec_app, exec_par, exec_aug, ev_var, getR_view, vwAt_fz, vwAt_ow, frz_go, frzA_nil, frzA_any, frAt_fz, frAt_no, frAt_ow, ev_int, ev_bool, ev_none, ev_dic0, ev_str, ev_bin, ev_un, boolK_t, boolK_f, boolK_b, ev_and, ev_or, notK_b, ev_not, ev_ife, ev_chn, ev_tup, ev_lst, ev_sl, ev_rev, ev_cb, lrK_i, ev_lrg1, ev_lrg2, ev_call, ev_kcall, ev_lc, evs_nil, evs_cons, evP_no, intK_i, evP_at, evQ_no, evQ_at, tstK_b, evT_val, evT_and, evT_or, evT_not, fl_t, fl_f, fl_i, fl_b, fl_n, fl_s, fl_l, fl_u, pb_mk, asg_i, asg_b, asg_s, asg_n, asg_l, asg_o, asg_u, asg_tp, setTs_nil, setTs_cons, bindTs_nil, bindTs_cons, bindS_nm, bindS_tp, bindT_nm, bindT_tp, app_i, app_b, app_l, app_u, appP_go, appE_ow, add_i, add_l, sub_i, mul_i, mul_lb, mul_tb, mul_ib, mod_i, fdiv_i, eq_i, ne_i, lt_i, le_i, gt_i, ge_i, in_u, notin_u, isN_d, notN_d, ix_l, ix_u, neg_i, len_l, len_u, min2_i, max2_i, int_i, int_b, list_l, list_u, tuple_l, tuple_u, abs_i, sum_l, any_l, all_l, src_l, src_u, src_1, src_2, src_e, src_z, isRng, vE, vEs, vP, vQ, vT, List.length_cons, List.length_nil, List.length_map, List.map_cons, List.map_nil, List.cons_append, List.nil_append, List.append_nil, List.replicate, List.getElem?_cons_zero, List.getElem?_cons_succ, List.set_cons_zero, List.set_cons_succ, bnd_s, bnd_n, Bool.and_true, Bool.true_and, Bool.or_true, Bool.true_or, Bool.or_false, Bool.false_or, Bool.and_false, Bool.false_and, Bool.not_true, Bool.not_false, cnd_t, cnd_f, List.all_cons, List.all_nil, nolA, nol, wipeR, tgIn, List.contains_cons, List.contains_nil, Nat.reduceBEq, Nat.reduceAdd, Nat.reduceSub, Nat.reduceLeDiff, decide_true, decide_false, permL, List.filterMap_cons, List.filterMap_nil, okTo_nx, turn_iff, List.map_map, getR_set, view_len, List.length_set, Nat.reduceLT, all_tt, comp_d, all_mp, ev_lzip, lz_l, ev_idx, ev_lc2, vwAt_od, frAt_od, frAt_nil, exec_set2, exec_setS, evS_go, setI_go, setE_ow, isSc_i, isSc_b, isSc_s, isSc_n, isSc_l, isSc_u, decide_eq_false c]
theorem run_pieces {n : Int} (n1 : 1 ≤ n) (n16 : n ≤ 16) {es : List (Int × Int)} (hI : Inc n es) (hl : es.length ≤ 1000) :
    fn_pieces_of [.int n, .list (es.map dP)] = some (.list ((pcsF n es).map fun xs => .list (xs.map PyData.int)), true) := by
  refine runZ_go rfl ?_
  unfold a_pieces_of
  have q : -(2 ^ 62) ≤ (1 : Int) ∧ (1 : Int) < 2 ^ 62 ∧ -(2 ^ 62) ≤ n + 1 ∧ n + 1 < 2 ^ 62 := by omega
  have z1 : ((leasts n (namesF n es)).length ≤ 100000) := cs_len' n16 _
  simp only [execs_nil, execs_one, execs_cons, nxt_nx, nxt_rt, nxt_br, nxt_ct, exec_asg, exec_ret, exec_retN, exec_ifs, exec_for, exec_whl, exec_brk, exec_cnt, exec_pas, exec_app, exec_par, exec_aug, ev_var, getR_view, vwAt_fz, vwAt_ow, frz_go, frzA_nil, frzA_any, frAt_fz, frAt_no, frAt_ow, ev_int, ev_bool, ev_none, ev_dic0, ev_str, ev_bin, ev_un, boolK_t, boolK_f, boolK_b, ev_and, ev_or, notK_b, ev_not, ev_ife, ev_chn, ev_tup, ev_lst, ev_sl, ev_rev, ev_cb, lrK_i, ev_lrg1, ev_lrg2, ev_call, ev_kcall, ev_lc, evs_nil, evs_cons, evP_no, intK_i, evP_at, evQ_no, evQ_at, tstK_b, evT_val, evT_and, evT_or, evT_not, fl_t, fl_f, fl_i, fl_b, fl_n, fl_s, fl_l, fl_u, pb_mk, asg_i, asg_b, asg_s, asg_n, asg_l, asg_o, asg_u, asg_tp, setTs_nil, setTs_cons, bindTs_nil, bindTs_cons, bindS_nm, bindS_tp, bindT_nm, bindT_tp, app_i, app_b, app_l, app_u, appP_go, appE_ow, add_i, add_l, sub_i, mul_i, mul_lb, mul_tb, mul_ib, mod_i, fdiv_i, eq_i, ne_i, lt_i, le_i, gt_i, ge_i, in_u, notin_u, isN_d, notN_d, ix_l, ix_u, neg_i, len_l, len_u, min2_i, max2_i, int_i, int_b, list_l, list_u, tuple_l, tuple_u, abs_i, sum_l, any_l, all_l, src_l, src_u, src_1, src_2, src_e, src_z, isRng, vE, vEs, vP, vQ, vT, List.length_cons, List.length_nil, List.length_map, List.map_cons, List.map_nil, List.cons_append, List.nil_append, List.append_nil, List.replicate, List.getElem?_cons_zero, List.getElem?_cons_succ, List.set_cons_zero, List.set_cons_succ, bnd_s, bnd_n, Bool.and_true, Bool.true_and, Bool.or_true, Bool.true_or, Bool.or_false, Bool.false_or, Bool.and_false, Bool.false_and, Bool.not_true, Bool.not_false, cnd_t, cnd_f, List.all_cons, List.all_nil, nolA, nol, wipeR, tgIn, List.contains_cons, List.contains_nil, Nat.reduceBEq, Nat.reduceAdd, Nat.reduceSub, Nat.reduceLeDiff, decide_true, decide_false, permL, List.filterMap_cons, List.filterMap_nil, okTo_nx, turn_iff, List.map_map, getR_set, view_len, List.length_set, Nat.reduceLT, all_tt, comp_d, all_mp, ev_lzip, lz_l, ev_idx, ev_lc2, vwAt_od, frAt_od, frAt_nil, exec_set2, exec_setS, evS_go, setI_go, setE_ow, isSc_i, isSc_b, isSc_s, isSc_n, isSc_l, isSc_u, run_names n1 n16 hI hl, decide_eq_true q, rngL_cs]
  rw [lcE_map (fun c => decide (nAt (namesF n es) c = c)) (fun c => (.int c, true)) (cs n) ?_]
  · show ((((some ((leasts n (namesF n es)).map _)).bind _).bind _).bind _) = _
    simp only [execs_nil, execs_one, execs_cons, nxt_nx, nxt_rt, nxt_br, nxt_ct, exec_asg, exec_ret, exec_retN, exec_ifs, exec_for, exec_whl, exec_brk, exec_cnt, exec_pas, exec_app, exec_par, exec_aug, ev_var, getR_view, vwAt_fz, vwAt_ow, frz_go, frzA_nil, frzA_any, frAt_fz, frAt_no, frAt_ow, ev_int, ev_bool, ev_none, ev_dic0, ev_str, ev_bin, ev_un, boolK_t, boolK_f, boolK_b, ev_and, ev_or, notK_b, ev_not, ev_ife, ev_chn, ev_tup, ev_lst, ev_sl, ev_rev, ev_cb, lrK_i, ev_lrg1, ev_lrg2, ev_call, ev_kcall, ev_lc, evs_nil, evs_cons, evP_no, intK_i, evP_at, evQ_no, evQ_at, tstK_b, evT_val, evT_and, evT_or, evT_not, fl_t, fl_f, fl_i, fl_b, fl_n, fl_s, fl_l, fl_u, pb_mk, asg_i, asg_b, asg_s, asg_n, asg_l, asg_o, asg_u, asg_tp, setTs_nil, setTs_cons, bindTs_nil, bindTs_cons, bindS_nm, bindS_tp, bindT_nm, bindT_tp, app_i, app_b, app_l, app_u, appP_go, appE_ow, add_i, add_l, sub_i, mul_i, mul_lb, mul_tb, mul_ib, mod_i, fdiv_i, eq_i, ne_i, lt_i, le_i, gt_i, ge_i, in_u, notin_u, isN_d, notN_d, ix_l, ix_u, neg_i, len_l, len_u, min2_i, max2_i, int_i, int_b, list_l, list_u, tuple_l, tuple_u, abs_i, sum_l, any_l, all_l, src_l, src_u, src_1, src_2, src_e, src_z, isRng, vE, vEs, vP, vQ, vT, List.length_cons, List.length_nil, List.length_map, List.map_cons, List.map_nil, List.cons_append, List.nil_append, List.append_nil, List.replicate, List.getElem?_cons_zero, List.getElem?_cons_succ, List.set_cons_zero, List.set_cons_succ, bnd_s, bnd_n, Bool.and_true, Bool.true_and, Bool.or_true, Bool.true_or, Bool.or_false, Bool.false_or, Bool.and_false, Bool.false_and, Bool.not_true, Bool.not_false, cnd_t, cnd_f, List.all_cons, List.all_nil, nolA, nol, wipeR, tgIn, List.contains_cons, List.contains_nil, Nat.reduceBEq, Nat.reduceAdd, Nat.reduceSub, Nat.reduceLeDiff, decide_true, decide_false, permL, List.filterMap_cons, List.filterMap_nil, okTo_nx, turn_iff, List.map_map, getR_set, view_len, List.length_set, Nat.reduceLT, all_tt, comp_d, all_mp, ev_lzip, lz_l, ev_idx, ev_lc2, vwAt_od, frAt_od, frAt_nil, exec_set2, exec_setS, evS_go, setI_go, setE_ow, isSc_i, isSc_b, isSc_s, isSc_n, isSc_l, isSc_u, decide_eq_true z1, decide_eq_true q, rngL_cs]
    rw [lcE_all (fun l => (.list ((cls n (namesF n es) l).map PyData.int), true)) (leasts n (namesF n es)) ?_]
    · simp only [execs_nil, execs_one, execs_cons, nxt_nx, nxt_rt, nxt_br, nxt_ct, exec_asg, exec_ret, exec_retN, exec_ifs, exec_for, exec_whl, exec_brk, exec_cnt, exec_pas, exec_app, exec_par, exec_aug, ev_var, getR_view, vwAt_fz, vwAt_ow, frz_go, frzA_nil, frzA_any, frAt_fz, frAt_no, frAt_ow, ev_int, ev_bool, ev_none, ev_dic0, ev_str, ev_bin, ev_un, boolK_t, boolK_f, boolK_b, ev_and, ev_or, notK_b, ev_not, ev_ife, ev_chn, ev_tup, ev_lst, ev_sl, ev_rev, ev_cb, lrK_i, ev_lrg1, ev_lrg2, ev_call, ev_kcall, ev_lc, evs_nil, evs_cons, evP_no, intK_i, evP_at, evQ_no, evQ_at, tstK_b, evT_val, evT_and, evT_or, evT_not, fl_t, fl_f, fl_i, fl_b, fl_n, fl_s, fl_l, fl_u, pb_mk, asg_i, asg_b, asg_s, asg_n, asg_l, asg_o, asg_u, asg_tp, setTs_nil, setTs_cons, bindTs_nil, bindTs_cons, bindS_nm, bindS_tp, bindT_nm, bindT_tp, app_i, app_b, app_l, app_u, appP_go, appE_ow, add_i, add_l, sub_i, mul_i, mul_lb, mul_tb, mul_ib, mod_i, fdiv_i, eq_i, ne_i, lt_i, le_i, gt_i, ge_i, in_u, notin_u, isN_d, notN_d, ix_l, ix_u, neg_i, len_l, len_u, min2_i, max2_i, int_i, int_b, list_l, list_u, tuple_l, tuple_u, abs_i, sum_l, any_l, all_l, src_l, src_u, src_1, src_2, src_e, src_z, isRng, vE, vEs, vP, vQ, vT, List.length_cons, List.length_nil, List.length_map, List.map_cons, List.map_nil, List.cons_append, List.nil_append, List.append_nil, List.replicate, List.getElem?_cons_zero, List.getElem?_cons_succ, List.set_cons_zero, List.set_cons_succ, bnd_s, bnd_n, Bool.and_true, Bool.true_and, Bool.or_true, Bool.true_or, Bool.or_false, Bool.false_or, Bool.and_false, Bool.false_and, Bool.not_true, Bool.not_false, cnd_t, cnd_f, List.all_cons, List.all_nil, nolA, nol, wipeR, tgIn, List.contains_cons, List.contains_nil, Nat.reduceBEq, Nat.reduceAdd, Nat.reduceSub, Nat.reduceLeDiff, decide_true, decide_false, permL, List.filterMap_cons, List.filterMap_nil, okTo_nx, turn_iff, List.map_map, getR_set, view_len, List.length_set, Nat.reduceLT, all_tt, comp_d, all_mp, ev_lzip, lz_l, ev_idx, ev_lc2, vwAt_od, frAt_od, frAt_nil, exec_set2, exec_setS, evS_go, setI_go, setE_ow, isSc_i, isSc_b, isSc_s, isSc_n, isSc_l, isSc_u, decide_eq_true z1]
      unfold pcsF
      rw [List.map_map] <;> rfl
    · intro l _
      refine item_ok rfl rfl fun _ => ?_
      have z2 : ((cls n (namesF n es) l).length ≤ 100000) := cs_len' n16 _
      simp only [execs_nil, execs_one, execs_cons, nxt_nx, nxt_rt, nxt_br, nxt_ct, exec_asg, exec_ret, exec_retN, exec_ifs, exec_for, exec_whl, exec_brk, exec_cnt, exec_pas, exec_app, exec_par, exec_aug, ev_var, getR_view, vwAt_fz, vwAt_ow, frz_go, frzA_nil, frzA_any, frAt_fz, frAt_no, frAt_ow, ev_int, ev_bool, ev_none, ev_dic0, ev_str, ev_bin, ev_un, boolK_t, boolK_f, boolK_b, ev_and, ev_or, notK_b, ev_not, ev_ife, ev_chn, ev_tup, ev_lst, ev_sl, ev_rev, ev_cb, lrK_i, ev_lrg1, ev_lrg2, ev_call, ev_kcall, ev_lc, evs_nil, evs_cons, evP_no, intK_i, evP_at, evQ_no, evQ_at, tstK_b, evT_val, evT_and, evT_or, evT_not, fl_t, fl_f, fl_i, fl_b, fl_n, fl_s, fl_l, fl_u, pb_mk, asg_i, asg_b, asg_s, asg_n, asg_l, asg_o, asg_u, asg_tp, setTs_nil, setTs_cons, bindTs_nil, bindTs_cons, bindS_nm, bindS_tp, bindT_nm, bindT_tp, app_i, app_b, app_l, app_u, appP_go, appE_ow, add_i, add_l, sub_i, mul_i, mul_lb, mul_tb, mul_ib, mod_i, fdiv_i, eq_i, ne_i, lt_i, le_i, gt_i, ge_i, in_u, notin_u, isN_d, notN_d, ix_l, ix_u, neg_i, len_l, len_u, min2_i, max2_i, int_i, int_b, list_l, list_u, tuple_l, tuple_u, abs_i, sum_l, any_l, all_l, src_l, src_u, src_1, src_2, src_e, src_z, isRng, vE, vEs, vP, vQ, vT, List.length_cons, List.length_nil, List.length_map, List.map_cons, List.map_nil, List.cons_append, List.nil_append, List.append_nil, List.replicate, List.getElem?_cons_zero, List.getElem?_cons_succ, List.set_cons_zero, List.set_cons_succ, bnd_s, bnd_n, Bool.and_true, Bool.true_and, Bool.or_true, Bool.true_or, Bool.or_false, Bool.false_or, Bool.and_false, Bool.false_and, Bool.not_true, Bool.not_false, cnd_t, cnd_f, List.all_cons, List.all_nil, nolA, nol, wipeR, tgIn, List.contains_cons, List.contains_nil, Nat.reduceBEq, Nat.reduceAdd, Nat.reduceSub, Nat.reduceLeDiff, decide_true, decide_false, permL, List.filterMap_cons, List.filterMap_nil, okTo_nx, turn_iff, List.map_map, getR_set, view_len, List.length_set, Nat.reduceLT, all_tt, comp_d, all_mp, ev_lzip, lz_l, ev_idx, ev_lc2, vwAt_od, frAt_od, frAt_nil, exec_set2, exec_setS, evS_go, setI_go, setE_ow, isSc_i, isSc_b, isSc_s, isSc_n, isSc_l, isSc_u, decide_eq_true q, rngL_cs]
      rw [lcE_map (fun c => decide (nAt (namesF n es) c = l)) (fun c => (.int c, true)) (cs n) ?_]
      · show (((some ((cls n (namesF n es) l).map _)).bind _).bind _) = _
        simp only [execs_nil, execs_one, execs_cons, nxt_nx, nxt_rt, nxt_br, nxt_ct, exec_asg, exec_ret, exec_retN, exec_ifs, exec_for, exec_whl, exec_brk, exec_cnt, exec_pas, exec_app, exec_par, exec_aug, ev_var, getR_view, vwAt_fz, vwAt_ow, frz_go, frzA_nil, frzA_any, frAt_fz, frAt_no, frAt_ow, ev_int, ev_bool, ev_none, ev_dic0, ev_str, ev_bin, ev_un, boolK_t, boolK_f, boolK_b, ev_and, ev_or, notK_b, ev_not, ev_ife, ev_chn, ev_tup, ev_lst, ev_sl, ev_rev, ev_cb, lrK_i, ev_lrg1, ev_lrg2, ev_call, ev_kcall, ev_lc, evs_nil, evs_cons, evP_no, intK_i, evP_at, evQ_no, evQ_at, tstK_b, evT_val, evT_and, evT_or, evT_not, fl_t, fl_f, fl_i, fl_b, fl_n, fl_s, fl_l, fl_u, pb_mk, asg_i, asg_b, asg_s, asg_n, asg_l, asg_o, asg_u, asg_tp, setTs_nil, setTs_cons, bindTs_nil, bindTs_cons, bindS_nm, bindS_tp, bindT_nm, bindT_tp, app_i, app_b, app_l, app_u, appP_go, appE_ow, add_i, add_l, sub_i, mul_i, mul_lb, mul_tb, mul_ib, mod_i, fdiv_i, eq_i, ne_i, lt_i, le_i, gt_i, ge_i, in_u, notin_u, isN_d, notN_d, ix_l, ix_u, neg_i, len_l, len_u, min2_i, max2_i, int_i, int_b, list_l, list_u, tuple_l, tuple_u, abs_i, sum_l, any_l, all_l, src_l, src_u, src_1, src_2, src_e, src_z, isRng, vE, vEs, vP, vQ, vT, List.length_cons, List.length_nil, List.length_map, List.map_cons, List.map_nil, List.cons_append, List.nil_append, List.append_nil, List.replicate, List.getElem?_cons_zero, List.getElem?_cons_succ, List.set_cons_zero, List.set_cons_succ, bnd_s, bnd_n, Bool.and_true, Bool.true_and, Bool.or_true, Bool.true_or, Bool.or_false, Bool.false_or, Bool.and_false, Bool.false_and, Bool.not_true, Bool.not_false, cnd_t, cnd_f, List.all_cons, List.all_nil, nolA, nol, wipeR, tgIn, List.contains_cons, List.contains_nil, Nat.reduceBEq, Nat.reduceAdd, Nat.reduceSub, Nat.reduceLeDiff, decide_true, decide_false, permL, List.filterMap_cons, List.filterMap_nil, okTo_nx, turn_iff, List.map_map, getR_set, view_len, List.length_set, Nat.reduceLT, all_tt, comp_d, all_mp, ev_lzip, lz_l, ev_idx, ev_lc2, vwAt_od, frAt_od, frAt_nil, exec_set2, exec_setS, evS_go, setI_go, setE_ow, isSc_i, isSc_b, isSc_s, isSc_n, isSc_l, isSc_u, decide_eq_true z2]
      · intro c hc
        have hc := mem_cs.mp hc
        have g := nam_at (n := n) (by omega) es (c := c) (by omega) hc.2
        refine item_ok rfl ?_ fun _ => ?_
        · simp only [execs_nil, execs_one, execs_cons, nxt_nx, nxt_rt, nxt_br, nxt_ct, exec_asg, exec_ret, exec_retN, exec_ifs, exec_for, exec_whl, exec_brk, exec_cnt, exec_pas, exec_app, exec_par, exec_aug, ev_var, getR_view, vwAt_fz, vwAt_ow, frz_go, frzA_nil, frzA_any, frAt_fz, frAt_no, frAt_ow, ev_int, ev_bool, ev_none, ev_dic0, ev_str, ev_bin, ev_un, boolK_t, boolK_f, boolK_b, ev_and, ev_or, notK_b, ev_not, ev_ife, ev_chn, ev_tup, ev_lst, ev_sl, ev_rev, ev_cb, lrK_i, ev_lrg1, ev_lrg2, ev_call, ev_kcall, ev_lc, evs_nil, evs_cons, evP_no, intK_i, evP_at, evQ_no, evQ_at, tstK_b, evT_val, evT_and, evT_or, evT_not, fl_t, fl_f, fl_i, fl_b, fl_n, fl_s, fl_l, fl_u, pb_mk, asg_i, asg_b, asg_s, asg_n, asg_l, asg_o, asg_u, asg_tp, setTs_nil, setTs_cons, bindTs_nil, bindTs_cons, bindS_nm, bindS_tp, bindT_nm, bindT_tp, app_i, app_b, app_l, app_u, appP_go, appE_ow, add_i, add_l, sub_i, mul_i, mul_lb, mul_tb, mul_ib, mod_i, fdiv_i, eq_i, ne_i, lt_i, le_i, gt_i, ge_i, in_u, notin_u, isN_d, notN_d, ix_l, ix_u, neg_i, len_l, len_u, min2_i, max2_i, int_i, int_b, list_l, list_u, tuple_l, tuple_u, abs_i, sum_l, any_l, all_l, src_l, src_u, src_1, src_2, src_e, src_z, isRng, vE, vEs, vP, vQ, vT, List.length_cons, List.length_nil, List.length_map, List.map_cons, List.map_nil, List.cons_append, List.nil_append, List.append_nil, List.replicate, List.getElem?_cons_zero, List.getElem?_cons_succ, List.set_cons_zero, List.set_cons_succ, bnd_s, bnd_n, Bool.and_true, Bool.true_and, Bool.or_true, Bool.true_or, Bool.or_false, Bool.false_or, Bool.and_false, Bool.false_and, Bool.not_true, Bool.not_false, cnd_t, cnd_f, List.all_cons, List.all_nil, nolA, nol, wipeR, tgIn, List.contains_cons, List.contains_nil, Nat.reduceBEq, Nat.reduceAdd, Nat.reduceSub, Nat.reduceLeDiff, decide_true, decide_false, permL, List.filterMap_cons, List.filterMap_nil, okTo_nx, turn_iff, List.map_map, getR_set, view_len, List.length_set, Nat.reduceLT, all_tt, comp_d, all_mp, ev_lzip, lz_l, ev_idx, ev_lc2, vwAt_od, frAt_od, frAt_nil, exec_set2, exec_setS, evS_go, setI_go, setE_ow, isSc_i, isSc_b, isSc_s, isSc_n, isSc_l, isSc_u, g]
        · simp only [execs_nil, execs_one, execs_cons, nxt_nx, nxt_rt, nxt_br, nxt_ct, exec_asg, exec_ret, exec_retN, exec_ifs, exec_for, exec_whl, exec_brk, exec_cnt, exec_pas, exec_app, exec_par, exec_aug, ev_var, getR_view, vwAt_fz, vwAt_ow, frz_go, frzA_nil, frzA_any, frAt_fz, frAt_no, frAt_ow, ev_int, ev_bool, ev_none, ev_dic0, ev_str, ev_bin, ev_un, boolK_t, boolK_f, boolK_b, ev_and, ev_or, notK_b, ev_not, ev_ife, ev_chn, ev_tup, ev_lst, ev_sl, ev_rev, ev_cb, lrK_i, ev_lrg1, ev_lrg2, ev_call, ev_kcall, ev_lc, evs_nil, evs_cons, evP_no, intK_i, evP_at, evQ_no, evQ_at, tstK_b, evT_val, evT_and, evT_or, evT_not, fl_t, fl_f, fl_i, fl_b, fl_n, fl_s, fl_l, fl_u, pb_mk, asg_i, asg_b, asg_s, asg_n, asg_l, asg_o, asg_u, asg_tp, setTs_nil, setTs_cons, bindTs_nil, bindTs_cons, bindS_nm, bindS_tp, bindT_nm, bindT_tp, app_i, app_b, app_l, app_u, appP_go, appE_ow, add_i, add_l, sub_i, mul_i, mul_lb, mul_tb, mul_ib, mod_i, fdiv_i, eq_i, ne_i, lt_i, le_i, gt_i, ge_i, in_u, notin_u, isN_d, notN_d, ix_l, ix_u, neg_i, len_l, len_u, min2_i, max2_i, int_i, int_b, list_l, list_u, tuple_l, tuple_u, abs_i, sum_l, any_l, all_l, src_l, src_u, src_1, src_2, src_e, src_z, isRng, vE, vEs, vP, vQ, vT, List.length_cons, List.length_nil, List.length_map, List.map_cons, List.map_nil, List.cons_append, List.nil_append, List.append_nil, List.replicate, List.getElem?_cons_zero, List.getElem?_cons_succ, List.set_cons_zero, List.set_cons_succ, bnd_s, bnd_n, Bool.and_true, Bool.true_and, Bool.or_true, Bool.true_or, Bool.or_false, Bool.false_or, Bool.and_false, Bool.false_and, Bool.not_true, Bool.not_false, cnd_t, cnd_f, List.all_cons, List.all_nil, nolA, nol, wipeR, tgIn, List.contains_cons, List.contains_nil, Nat.reduceBEq, Nat.reduceAdd, Nat.reduceSub, Nat.reduceLeDiff, decide_true, decide_false, permL, List.filterMap_cons, List.filterMap_nil, okTo_nx, turn_iff, List.map_map, getR_set, view_len, List.length_set, Nat.reduceLT, all_tt, comp_d, all_mp, ev_lzip, lz_l, ev_idx, ev_lc2, vwAt_od, frAt_od, frAt_nil, exec_set2, exec_setS, evS_go, setI_go, setE_ow, isSc_i, isSc_b, isSc_s, isSc_n, isSc_l, isSc_u, g]
  · intro c hc
    have hc := mem_cs.mp hc
    have g := nam_at (n := n) (by omega) es (c := c) (by omega) hc.2
    refine item_ok rfl ?_ fun _ => ?_
    · simp only [execs_nil, execs_one, execs_cons, nxt_nx, nxt_rt, nxt_br, nxt_ct, exec_asg, exec_ret, exec_retN, exec_ifs, exec_for, exec_whl, exec_brk, exec_cnt, exec_pas, exec_app, exec_par, exec_aug, ev_var, getR_view, vwAt_fz, vwAt_ow, frz_go, frzA_nil, frzA_any, frAt_fz, frAt_no, frAt_ow, ev_int, ev_bool, ev_none, ev_dic0, ev_str, ev_bin, ev_un, boolK_t, boolK_f, boolK_b, ev_and, ev_or, notK_b, ev_not, ev_ife, ev_chn, ev_tup, ev_lst, ev_sl, ev_rev, ev_cb, lrK_i, ev_lrg1, ev_lrg2, ev_call, ev_kcall, ev_lc, evs_nil, evs_cons, evP_no, intK_i, evP_at, evQ_no, evQ_at, tstK_b, evT_val, evT_and, evT_or, evT_not, fl_t, fl_f, fl_i, fl_b, fl_n, fl_s, fl_l, fl_u, pb_mk, asg_i, asg_b, asg_s, asg_n, asg_l, asg_o, asg_u, asg_tp, setTs_nil, setTs_cons, bindTs_nil, bindTs_cons, bindS_nm, bindS_tp, bindT_nm, bindT_tp, app_i, app_b, app_l, app_u, appP_go, appE_ow, add_i, add_l, sub_i, mul_i, mul_lb, mul_tb, mul_ib, mod_i, fdiv_i, eq_i, ne_i, lt_i, le_i, gt_i, ge_i, in_u, notin_u, isN_d, notN_d, ix_l, ix_u, neg_i, len_l, len_u, min2_i, max2_i, int_i, int_b, list_l, list_u, tuple_l, tuple_u, abs_i, sum_l, any_l, all_l, src_l, src_u, src_1, src_2, src_e, src_z, isRng, vE, vEs, vP, vQ, vT, List.length_cons, List.length_nil, List.length_map, List.map_cons, List.map_nil, List.cons_append, List.nil_append, List.append_nil, List.replicate, List.getElem?_cons_zero, List.getElem?_cons_succ, List.set_cons_zero, List.set_cons_succ, bnd_s, bnd_n, Bool.and_true, Bool.true_and, Bool.or_true, Bool.true_or, Bool.or_false, Bool.false_or, Bool.and_false, Bool.false_and, Bool.not_true, Bool.not_false, cnd_t, cnd_f, List.all_cons, List.all_nil, nolA, nol, wipeR, tgIn, List.contains_cons, List.contains_nil, Nat.reduceBEq, Nat.reduceAdd, Nat.reduceSub, Nat.reduceLeDiff, decide_true, decide_false, permL, List.filterMap_cons, List.filterMap_nil, okTo_nx, turn_iff, List.map_map, getR_set, view_len, List.length_set, Nat.reduceLT, all_tt, comp_d, all_mp, ev_lzip, lz_l, ev_idx, ev_lc2, vwAt_od, frAt_od, frAt_nil, exec_set2, exec_setS, evS_go, setI_go, setE_ow, isSc_i, isSc_b, isSc_s, isSc_n, isSc_l, isSc_u, g]
    · simp only [execs_nil, execs_one, execs_cons, nxt_nx, nxt_rt, nxt_br, nxt_ct, exec_asg, exec_ret, exec_retN, exec_ifs, exec_for, exec_whl, exec_brk, exec_cnt, exec_pas, exec_app, exec_par, exec_aug, ev_var, getR_view, vwAt_fz, vwAt_ow, frz_go, frzA_nil, frzA_any, frAt_fz, frAt_no, frAt_ow, ev_int, ev_bool, ev_none, ev_dic0, ev_str, ev_bin, ev_un, boolK_t, boolK_f, boolK_b, ev_and, ev_or, notK_b, ev_not, ev_ife, ev_chn, ev_tup, ev_lst, ev_sl, ev_rev, ev_cb, lrK_i, ev_lrg1, ev_lrg2, ev_call, ev_kcall, ev_lc, evs_nil, evs_cons, evP_no, intK_i, evP_at, evQ_no, evQ_at, tstK_b, evT_val, evT_and, evT_or, evT_not, fl_t, fl_f, fl_i, fl_b, fl_n, fl_s, fl_l, fl_u, pb_mk, asg_i, asg_b, asg_s, asg_n, asg_l, asg_o, asg_u, asg_tp, setTs_nil, setTs_cons, bindTs_nil, bindTs_cons, bindS_nm, bindS_tp, bindT_nm, bindT_tp, app_i, app_b, app_l, app_u, appP_go, appE_ow, add_i, add_l, sub_i, mul_i, mul_lb, mul_tb, mul_ib, mod_i, fdiv_i, eq_i, ne_i, lt_i, le_i, gt_i, ge_i, in_u, notin_u, isN_d, notN_d, ix_l, ix_u, neg_i, len_l, len_u, min2_i, max2_i, int_i, int_b, list_l, list_u, tuple_l, tuple_u, abs_i, sum_l, any_l, all_l, src_l, src_u, src_1, src_2, src_e, src_z, isRng, vE, vEs, vP, vQ, vT, List.length_cons, List.length_nil, List.length_map, List.map_cons, List.map_nil, List.cons_append, List.nil_append, List.append_nil, List.replicate, List.getElem?_cons_zero, List.getElem?_cons_succ, List.set_cons_zero, List.set_cons_succ, bnd_s, bnd_n, Bool.and_true, Bool.true_and, Bool.or_true, Bool.true_or, Bool.or_false, Bool.false_or, Bool.and_false, Bool.false_and, Bool.not_true, Bool.not_false, cnd_t, cnd_f, List.all_cons, List.all_nil, nolA, nol, wipeR, tgIn, List.contains_cons, List.contains_nil, Nat.reduceBEq, Nat.reduceAdd, Nat.reduceSub, Nat.reduceLeDiff, decide_true, decide_false, permL, List.filterMap_cons, List.filterMap_nil, okTo_nx, turn_iff, List.map_map, getR_set, view_len, List.length_set, Nat.reduceLT, all_tt, comp_d, all_mp, ev_lzip, lz_l, ev_idx, ev_lc2, vwAt_od, frAt_od, frAt_nil, exec_set2, exec_setS, evS_go, setI_go, setE_ow, isSc_i, isSc_b, isSc_s, isSc_n, isSc_l, isSc_u, g]
end Un

set_option maxRecDepth 100000
set_option maxHeartbeats 4000000
namespace Un
open PySem PySem.Spec PyProof.Rows L2
theorem exec_drop {e : EX} {ρ : RhoS} : exec (.drop e) ρ = (ev e (view (vE e) ρ)).bind fun r => some (.nx (bif isSc r.d then ρ else frz (vE e) ρ)) := by
  show (evS e ρ).map _ = _
  rw [evS_go]
  cases ev e (view (vE e) ρ) <;> rfl
theorem fl_p {n : Bool} {e : Int × Int} : fl n (dP e) = true := by cases n <;> rfl
theorem nol_p {e : Int × Int} : nol (dP e) = true := id rfl
theorem pb_p {n t : Bool} {e : Int × Int} : Rs.pb ⟨dP e, n, t⟩ = (dP e, true) := by
  show (dP e, fl n (dP e)) = _
  rw [fl_p]
theorem shaped_rows : ∀ {ds : List PyData} {k : Nat}, (∀ d ∈ ds, d.canLay0 = true ∧ d.depth ≤ k) → PyData.canLayAll0 ds = true ∧ PyData.depthAll ds ≤ k
  | [], k, _ => by simp [PyData.canLayAll0, PyData.depthAll]
  | d :: ds, k, h => by
    obtain ⟨h1, h2⟩ := h d List.mem_cons_self
    obtain ⟨h3, h4⟩ := shaped_rows (ds := ds) (k := k) fun e he => h e (List.mem_cons_of_mem _ he)
    simp only [PyData.canLayAll0, PyData.depthAll]
    rw [h1, h3]
    exact ⟨rfl, by omega⟩
theorem shaped_list {ds : List PyData} {k : Nat} (hk : k ≤ 60) (h : ∀ d ∈ ds, d.canLay0 = true ∧ d.depth ≤ k) : (PyData.list ds).canLay0 = true ∧ (PyData.list ds).depth ≤ k + 1 ∧ SeqAt.shaped (.list ds) = true := by
  obtain ⟨h1, h2⟩ := shaped_rows h
  have a : (PyData.list ds).canLay0 = true := by
    simp only [PyData.canLay0]
    exact h1
  have b : (PyData.list ds).depth ≤ k + 1 := by
    simp only [PyData.depth]
    omega
  refine ⟨a, b, ?_⟩
  show ((PyData.list ds).canLay0 && decide ((PyData.list ds).depth ≤ 64)) = true
  rw [a, decide_eq_true (by omega)] <;> rfl
theorem lay_p {e : Int × Int} : (dP e).canLay0 = true ∧ (dP e).depth ≤ 3 := by
  refine ⟨rfl, ?_⟩
  unfold dP
  simp [PyData.depth, PyData.depthAll]
theorem lay_i {i : Int} : (PyData.int i).canLay0 = true ∧ (PyData.int i).depth ≤ 1 := by
  refine ⟨rfl, ?_⟩
  simp [PyData.depth]
theorem lay_is (xs : List Int) : (PyData.list (xs.map PyData.int)).canLay0 = true ∧ (PyData.list (xs.map PyData.int)).depth ≤ 2 ∧ SeqAt.shaped (.list (xs.map PyData.int)) = true :=
  shaped_list (by decide) fun d hd => by
    obtain ⟨i, _, rfl⟩ := List.mem_map.mp hd
    exact lay_i
section
variable {n m : Bool} {e f : Int × Int} {i j : Int}
theorem eqv_p : PyData.eqv (dP e) (dP f) = decide (e = f) := by
  show (PyData.eqv (.int e.1) (.int f.1) && (PyData.eqv (.int e.2) (.int f.2) && true)) = _
  rw [eqv_ii, eqv_ii, Bool.and_true]
  by_cases h : e = f
  · subst h
    rw [decide_eq_true rfl, decide_eq_true rfl, decide_eq_true rfl] <;> rfl
  · rw [decide_eq_false h]
    by_cases h1 : e.1 = f.1
    · rw [decide_eq_true h1, decide_eq_false fun h2 => h (Prod.ext h1 h2)] <;> rfl
    · rw [decide_eq_false h1] <;> rfl
theorem shaped_p : SeqAt.shaped (dP e) = true := id rfl
theorem shapedA_p (es : List (Int × Int)) : SeqAt.shaped (.list (es.map dP)) = true :=
  (shaped_list (k := 3) (by decide) fun d hd => by
    obtain ⟨i, _, rfl⟩ := List.mem_map.mp hd
    exact lay_p).2.2
theorem ne_p : Op2.f .ne (dP e, n) (dP f, m) = some ⟨.bool (!decide (e = f)), true, false⟩ := by
  rw [ne_d]
  show (bif SeqAt.shaped (dP e) && SeqAt.shaped (dP f) then _ else _) = _
  rw [shaped_p, shaped_p, eqv_p] <;> rfl
theorem ix_p0 : Op2.f .ix (dP e, n) (.int 0, m) = some ⟨.int e.1, n, false⟩ := id rfl
theorem ix_p1 : Op2.f .ix (dP e, n) (.int 1, m) = some ⟨.int e.2, n, false⟩ := id rfl
theorem shapedA_i (xs : List Int) : SeqAt.shaped (.list (xs.map PyData.int)) = true := (lay_is xs).2.2
theorem any_i {c : Int} : ∀ xs : List Int, ((xs.map PyData.int).any fun z => PyData.eqv z (.int c)) = decide (c ∈ xs)
  | [] => rfl
  | x :: xs => by
    rw [List.map_cons, List.any_cons, any_i xs, eqv_ii]
    by_cases h : x = c
    · subst h
      rw [decide_eq_true rfl, decide_eq_true List.mem_cons_self] <;> rfl
    · rw [decide_eq_false h, Bool.false_or]
      refine decide_eq_decide.mpr ⟨List.mem_cons_of_mem _, fun z => (List.mem_cons.mp z).resolve_left fun q => h q.symm⟩
theorem in_i {xs : List Int} : Op2.f .isin (.int i, n) (.list (xs.map PyData.int), m) = some ⟨.bool (decide (i ∈ xs)), true, false⟩ := by
  rw [in_l, shaped_i, shapedA_i, any_i] <;> rfl
theorem notin_i {xs : List Int} : Op2.f .notin (.int i, n) (.list (xs.map PyData.int), m) = some ⟨.bool (!decide (i ∈ xs)), true, false⟩ := by
  rw [notin_l, shaped_i, shapedA_i, any_i] <;> rfl
theorem any_p : ∀ es : List (Int × Int), ((es.map dP).any fun z => PyData.eqv z (dP e)) = decide (e ∈ es)
  | [] => rfl
  | x :: xs => by
    rw [List.map_cons, List.any_cons, any_p xs, eqv_p]
    by_cases h : x = e
    · subst h
      rw [decide_eq_true rfl, decide_eq_true List.mem_cons_self] <;> rfl
    · rw [decide_eq_false h, Bool.false_or]
      refine decide_eq_decide.mpr ⟨List.mem_cons_of_mem _, fun z => (List.mem_cons.mp z).resolve_left fun q => h q.symm⟩
theorem notin_p {es : List (Int × Int)} : Op2.f .notin (dP e, n) (.list (es.map dP), m) = some ⟨.bool (!decide (e ∈ es)), true, false⟩ := by
  rw [notin_l, shaped_p, shapedA_p, any_p] <;> rfl
theorem ne_b {a b : Bool} : Op2.f .ne (.bool a, n) (.bool b, m) = some ⟨.bool (!(a == b)), true, false⟩ := by
  cases a <;> cases b <;> rfl
theorem eqv_is : ∀ xs ys : List Int, PyData.eqv (.list (xs.map PyData.int)) (.list (ys.map PyData.int)) = decide (xs = ys)
  | [], [] => rfl
  | [], _ :: _ => rfl
  | _ :: _, [] => rfl
  | x :: xs, y :: ys => by
    show (PyData.eqv (.int x) (.int y) && PyData.eqv (.list (xs.map PyData.int)) (.list (ys.map PyData.int))) = _
    rw [eqv_ii, eqv_is xs ys]
    by_cases h : x = y
    · subst h
      rw [decide_eq_true rfl, Bool.true_and]
      exact decide_eq_decide.mpr ⟨fun z => by rw [z], fun z => (List.cons.inj z).2⟩
    · rw [decide_eq_false h, Bool.false_and, decide_eq_false fun z => h (List.cons.inj z).1]
theorem eqv_rs : ∀ X Y : List (List Int), PyData.eqv (.list (X.map fun xs => .list (xs.map PyData.int))) (.list (Y.map fun xs => .list (xs.map PyData.int))) = decide (X = Y)
  | [], [] => rfl
  | [], _ :: _ => rfl
  | _ :: _, [] => rfl
  | x :: xs, y :: ys => by
    show (PyData.eqv (.list (x.map PyData.int)) (.list (y.map PyData.int)) && PyData.eqv (.list (xs.map fun xs => .list (xs.map PyData.int))) (.list (ys.map fun xs => .list (xs.map PyData.int)))) = _
    rw [eqv_is, eqv_rs xs ys]
    by_cases h : x = y
    · subst h
      rw [decide_eq_true rfl, Bool.true_and]
      exact decide_eq_decide.mpr ⟨fun z => by rw [z], fun z => (List.cons.inj z).2⟩
    · rw [decide_eq_false h, Bool.false_and, decide_eq_false fun z => h (List.cons.inj z).1]
theorem eqv_ps : ∀ X Y : List (Int × Int), PyData.eqv (.list (X.map dP)) (.list (Y.map dP)) = decide (X = Y)
  | [], [] => rfl
  | [], _ :: _ => rfl
  | _ :: _, [] => rfl
  | x :: xs, y :: ys => by
    show (PyData.eqv (dP x) (dP y) && PyData.eqv (.list (xs.map dP)) (.list (ys.map dP))) = _
    rw [eqv_p, eqv_ps xs ys]
    by_cases h : x = y
    · subst h
      rw [decide_eq_true rfl, Bool.true_and]
      exact decide_eq_decide.mpr ⟨fun z => by rw [z], fun z => (List.cons.inj z).2⟩
    · rw [decide_eq_false h, Bool.false_and, decide_eq_false fun z => h (List.cons.inj z).1]
theorem shapedA_r (X : List (List Int)) : SeqAt.shaped (.list (X.map fun xs => .list (xs.map PyData.int))) = true :=
  (shaped_list (k := 2) (by decide) fun d hd => by
    obtain ⟨xs, _, rfl⟩ := List.mem_map.mp hd
    exact ⟨(lay_is xs).1, (lay_is xs).2.1⟩).2.2
theorem ne_is {xs ys : List Int} : Op2.f .ne (.list (xs.map PyData.int), n) (.list (ys.map PyData.int), m) = some ⟨.bool (!decide (xs = ys)), true, false⟩ := by
  rw [ne_d]
  show (bif SeqAt.shaped (.list (xs.map PyData.int)) && SeqAt.shaped (.list (ys.map PyData.int)) then _ else _) = _
  rw [shapedA_i, shapedA_i, eqv_is] <;> rfl
theorem ne_rs {X Y : List (List Int)} : Op2.f .ne (.list (X.map fun xs => .list (xs.map PyData.int)), n) (.list (Y.map fun xs => .list (xs.map PyData.int)), m) = some ⟨.bool (!decide (X = Y)), true, false⟩ := by
  rw [ne_d]
  show (bif SeqAt.shaped (.list (X.map fun xs => .list (xs.map PyData.int))) && SeqAt.shaped (.list (Y.map fun xs => .list (xs.map PyData.int))) then _ else _) = _
  rw [shapedA_r, shapedA_r, eqv_rs] <;> rfl
theorem ne_ps {X Y : List (Int × Int)} : Op2.f .ne (.list (X.map dP), n) (.list (Y.map dP), m) = some ⟨.bool (!decide (X = Y)), true, false⟩ := by
  rw [ne_d]
  show (bif SeqAt.shaped (.list (X.map dP)) && SeqAt.shaped (.list (Y.map dP)) then _ else _) = _
  rw [shapedA_p, shapedA_p, eqv_ps] <;> rfl
theorem notin_2 {xs ys : List Int} : Op2.f .notin (.list (xs.map PyData.int), n) (.list [.list [], .list (ys.map PyData.int)], m) = some ⟨.bool (!(decide (xs = []) || decide (xs = ys))), true, false⟩ := by
  rw [notin_l]
  have h1 := shapedA_i xs
  have h2 := shapedA_r [[], ys]
  have h2 : SeqAt.shaped (.list [.list [], .list (ys.map PyData.int)]) = true := h2
  rw [h1, h2]
  show some (Rs.mk (.bool (!(PyData.eqv (.list (([] : List Int).map PyData.int)) (.list (xs.map PyData.int)) || (PyData.eqv (.list (ys.map PyData.int)) (.list (xs.map PyData.int)) || false)))) true false) = _
  rw [eqv_is, eqv_is, Bool.or_false]
  congr 5
  · exact decide_eq_decide.mpr ⟨fun z => z.symm, fun z => z.symm⟩
  · exact decide_eq_decide.mpr ⟨fun z => z.symm, fun z => z.symm⟩
end
end Un
namespace Un
open PySem PySem.Spec PyProof.Rows L2
theorem sl_tail {ds : List PyData} {n : Bool} : slK (.list ds, n) (some 1) none = some ⟨.list (ds.drop 1), n, true⟩ := by
  show some (Rs.mk (.list ((ds.drop (HT.sIx ds.length 0 (some 1))).take (HT.sIx ds.length ds.length none - HT.sIx ds.length 0 (some 1)))) n true) = _
  cases ds with
  | nil => rfl
  | cons d ds =>
    have e1 : HT.sIx (d :: ds).length 0 (some 1) = 1 := by
      unfold HT.sIx
      simp
    have e2 : HT.sIx (d :: ds).length (d :: ds).length none = (d :: ds).length := rfl
    rw [e1, e2, List.take_of_length_le (by simp)]
theorem sl_head {ds : List PyData} {n : Bool} : slK (.list ds, n) none (some 1) = some ⟨.list (ds.take 1), n, true⟩ := by
  show some (Rs.mk (.list ((ds.drop (HT.sIx ds.length 0 none)).take (HT.sIx ds.length ds.length (some 1) - HT.sIx ds.length 0 none))) n true) = _
  cases ds with
  | nil => rfl
  | cons d ds =>
    have e1 : HT.sIx (d :: ds).length (d :: ds).length (some 1) = 1 := by
      unfold HT.sIx
      simp
    have e2 : HT.sIx (d :: ds).length 0 none = 0 := rfl
    rw [e1, e2] <;> rfl
theorem zipL_f (fl' : Bool) (f : Int → Int) : ∀ xs : List Int, zipL fl' (xs.map PyData.int) ((xs.map f).map PyData.int) = xs.map fun x => (dP (x, f x), true)
  | [] => rfl
  | x :: xs => by
    rw [List.map_cons, List.map_cons, List.map_cons, List.map_cons]
    unfold zipL
    rw [zipL_f fl' f xs]
    congr 1
    show (PyData.tuple [.int x, .int (f x)], fl fl' (.tuple [.int x, .int (f x)])) = _
    cases fl' <;> rfl
theorem bindTs_p {i j : Nat} {n : Bool} {e : Int × Int} {ρ : Rho} : bindT (.tp [i, j]) (dP e, n) ρ = some ((ρ.set i (some (.int e.1, true))).set j (some (.int e.2, true))) := by
  show some ((ρ.set i (some (.int e.1, fl n (.int e.1)))).set j (some (.int e.2, fl n (.int e.2)))) = _
  rw [fl_i, fl_i]
end Un

set_option maxRecDepth 100000
set_option maxHeartbeats 8000000
namespace Un
open PySem PySem.Spec PyProof.Rows L2
theorem Drw.ex {H : Hp} {d : Addr} {k : Nat} (h : Drw H d k) : ∃ (x y : Int) (b : Bool), H d = some (.lst [.int x, .int y, .bl b]) := by
  obtain ⟨a, b, h, _⟩ := h
  exact ⟨_, _, _, h⟩
theorem Drw.ne {H : Hp} {d : Addr} {k : Nat} (h : Drw H d k) : H d ≠ none := by
  obtain ⟨a, b, h, _⟩ := h
  rw [h]
  exact fun z => nomatch z

theorem Drw.kp {H H' : Hp} {d : Addr} {k : Nat} (h : Drw H d k) (s : ∀ o, H d = some o → H' d = some o) : Drw H' d k := by
  obtain ⟨a, b, e, p⟩ := h
  exact ⟨a, b, s _ e, p⟩
/-- for x in [draws(cell) for cell in script[:c] + [0]]: .. -/
theorem outer_ok {K : PySem.W.Frag} {i : Nat} {c : Nat} {tb : TS} {D : Ends} {a : Addr} {ns : List Int} {H : Hp} {σ : L2.St} (Iv : L2.St → Prop) (hv : Iv σ) (h0 : σ[0]? = some (some (.ref a))) (hi : i < σ.length) (hS : SqL K H a (ns.map V.int)) (hl : ns.length ≤ 63)
    (body : ∀ (d : Addr) (σ' : L2.St) (H' : Hp) (N : L2.St → Hp → Prop), Iv σ' → Same H H' → H d = none → Drw H' d 0 → (∀ σ2 H2, Iv σ2 → SameBut (· = d) H' H2 → N σ2 H2) → tb { D with nx := N, ct := N, bk := D.nx } (σ'.set 1 (some (.ref d))) H')
    (tail : ∀ σ' H', Iv σ' → Same H H' → D.nx σ' H') :
    tFor (iList K (tLc (iList K (tOp rCat (tSl (rSlL K) (tVar 0) tNoPart (tPart (tC (.int (c : Nat))))) (tLst (tCons (tC (.int 0)) tNil)))) (gName i) tYes (tCall spDraws [] E0 (tCons (tVar i) tNil)) [i])) (gName 1) tb D σ H := by
  refine ⟨_, h0, (c : Nat), rfl, a, _, rfl, hS, fun q nq => ?_⟩
  have s1 := same_upd (o := .lst (cutV (ns.map V.int) none (some (c : Nat)))) nq
  refine ⟨(by show 1 ≤ sizeLine; decide), fun z nz => ?_⟩
  have s2 := same_upd (o := .lst [.int 0]) nz
  have hcl : (cutV (ns.map V.int) none (some (c : Nat))).length ≤ 63 := by
    refine Nat.le_trans (cutV_length _ _ _) ?_
    rw [List.length_map]
    exact hl
  have hci : ∀ x ∈ cutV (ns.map V.int) none (some (c : Nat)) ++ [V.int 0], ∃ i, x = V.int i := by
    intro x hx
    rcases List.mem_append.mp hx with hx | hx
    · rw [cut_to] at hx
      obtain ⟨i, _, rfl⟩ := List.mem_map.mp (List.mem_of_mem_take hx)
      exact ⟨i, rfl⟩
    · exact ⟨0, List.mem_singleton.mp hx⟩
  refine ⟨q, z, _, _, rfl, rfl, s2 _ _ upd_same, upd_same, ?_, fun l nl => ?_⟩
  · exact Nat.le_trans (Nat.add_le_add hcl (Nat.le_refl 1)) (by decide)
  have s3 := same_upd (o := .lst (cutV (ns.map V.int) none (some (c : Nat)) ++ [V.int 0])) nl
  have hl3 : (upd (upd (upd H q (.lst (cutV (ns.map V.int) none (some (c : Nat))))) z (.lst [.int 0])) l (.lst (cutV (ns.map V.int) none (some (c : Nat)) ++ [V.int 0]))) l = some (.lst (cutV (ns.map V.int) none (some (c : Nat)) ++ [V.int 0])) := upd_same
  have hlen : (cutV (ns.map V.int) none (some (c : Nat)) ++ [V.int 0]).length ≤ 64 := by
    rw [List.length_append]
    exact Nat.succ_le_succ hcl
  have sH := (s1.trans s2).trans s3
  generalize cutV (ns.map V.int) none (some (c : Nat)) ++ [V.int 0] = cells at hci hlen hl3 sH ⊢
  generalize upd (upd (upd H q (.lst (cutV (ns.map V.int) none (some (c : Nat))))) z (.lst [.int 0])) l (.lst cells) = H0 at hl3 sH ⊢
  refine ⟨l, rfl, ⟨_, sqL_of hl3⟩, fun D0 nD => ?_⟩
  refine lc_list (K := K) (a := l) (xs := cells) (fun i H' => ∃ ds : List Addr, Same H0 H' ∧ H' D0 = some (.lst (ds.map V.ref)) ∧ ds.Nodup ∧ D0 ∉ ds ∧ ds.length ≤ i ∧ (∀ d ∈ ds, Drw H' d 0 ∧ H0 d = none))
    ⟨[], same_upd nD, upd_same, List.nodup_nil, List.not_mem_nil, Nat.zero_le _, fun d hd => (List.not_mem_nil hd).elim⟩ (fun i H' _ ⟨_, s3, _⟩ => sqL_of (s3 _ _ hl3)) ?_ ?_
  · rintro j x H1 hx ⟨ds, s3, hD, nd, nDd, hdl, hdr⟩
    have hil : j < 64 := Nat.lt_of_lt_of_le (List.getElem?_eq_some_iff.mp hx).1 hlen
    obtain ⟨v, rfl⟩ := hci x (List.mem_of_getElem? hx)
    refine ⟨by show ((σ.set i none).set i (some (V.int v))).set i none = σ.set i none; rw [List.set_set, List.set_set], yes (iteT ?_)⟩
    refine ⟨.int v, by show ((σ.set i none).set i (some (V.int v)))[i]? = _; rw [List.getElem?_set_self (by rw [List.length_set]; exact hi)], v, rfl, fun H2 d s4 nd1 dr => ?_⟩
    have dD : d ≠ D0 := fun e => by
      rw [e, hD] at nd1
      cases nd1
    have dn : d ∉ ds := fun m => (hdr d m).1.ne nd1
    have keep : ∀ {d' : Addr} {k : Nat} {o : HO}, d' ≠ D0 → Drw H2 d' k → Drw (upd H2 D0 o) d' k := fun n h => h.kp fun o e => by
      rw [upd_ne n]
      exact e
    refine ⟨_, s4 _ _ hD, by rw [List.length_map]; exact small1000 (by omega), ds ++ [d], Same.mut (s3.trans s4) nD, ?_, ?_, ?_, ?_, ?_⟩
    · rw [upd_same, map_snoc]
    · exact List.nodup_append.mpr ⟨nd, by simp, fun a ha b hb => by
        rw [List.mem_singleton.mp hb]
        exact fun e => dn (e ▸ ha)⟩
    · intro m
      rcases List.mem_append.mp m with m | m
      · exact nDd m
      · exact dD (List.mem_singleton.mp m).symm
    · rw [List.length_append]
      exact Nat.succ_le_succ hdl
    · intro d' hd'
      rcases List.mem_append.mp hd' with m | m
      · exact ⟨keep (fun e => nDd (e ▸ m)) ((hdr d' m).1.kp fun o e => s4 _ _ e), (hdr d' m).2⟩
      · rw [List.mem_singleton.mp m]
        exact ⟨keep dD dr, s3.free nd1⟩
  · rintro H1 ⟨ds, s3, hD, nd, nDd, hdl, hdr⟩
    refine ⟨D0, rfl, ⟨_, sqL_of hD⟩, ?_⟩
    refine for_list (K := K) (a := D0) (xs := ds.map V.ref) (fun i σ' H' => Iv σ' ∧ SameBut (· ∈ ds) H1 H' ∧ ∀ (j : Nat) (d : Addr), i ≤ j → ds[j]? = some d → Drw H' d 0)
      ⟨hv, SameBut.refl _ _, fun j d _ e => (hdr d (List.mem_of_getElem? e)).1⟩ (fun i σ H' _ ⟨_, b, _⟩ => sqL_of (b _ _ nDd hD)) ?_ ?_
    · rintro j x σ' H2 hx ⟨iv, b2, hj⟩
      rw [List.getElem?_map] at hx
      obtain ⟨d, hd, rfl⟩ := Option.map_eq_some_iff.mp hx
      have md : d ∈ ds := List.mem_of_getElem? hd
      have sHH : Same H H2 := (sH.trans s3).trans_but b2 (fun d hd => by
        have := (hdr d hd).2
        exact sH.free this)
      refine body d σ' H2 _ iv sHH (sH.free (hdr d md).2) (hj j d (Nat.le_refl _) hd) fun σ2 H3 iv2 b3 => ⟨iv2, b2.trans fun b o n e => b3 b o (fun z => n (z ▸ md)) e, fun j' d' hij e => ?_⟩
      have dne : d' ≠ d := fun z => by
        have h1 := (List.getElem?_inj (i := j') (j := j) (List.getElem?_eq_some_iff.mp e).1 nd).mp (by rw [e, hd, z])
        omega
      exact (hj j' d' (by omega) e).kp fun o e => b3 _ _ dne e
    · rintro σ' H2 ⟨iv, b2, _⟩
      exact tail σ' H2 iv ((sH.trans s3).trans_but b2 (fun d hd => sH.free (hdr d hd).2))
end Un

set_option maxRecDepth 100000
set_option maxHeartbeats 8000000
namespace Un
open PySem PySem.Spec PyProof.Rows L2 LamX
/-- all is as it was, but for S and the tables -/
def SameBN (S : Addr → Prop) (H H' : Hp) : Prop := ∀ b o, ¬ S b → H b = some o → (∀ ps, o ≠ .tbl ps) → H' b = some o
theorem SameBN.refl (S : Addr → Prop) (H : Hp) : SameBN S H H := fun _ _ _ h _ => h
theorem SameBN.trans {S : Addr → Prop} {H H1 H2 : Hp} (a : SameBN S H H1) (b : SameBN S H1 H2) : SameBN S H H2 := fun c o n h k => b c o n (a c o n h k) k
theorem SameBN.of {S : Addr → Prop} {H H' : Hp} (a : ExtN H H') : SameBN S H H' := fun c o _ h k => a c o h k
theorem SameBN.ofB {S : Addr → Prop} {H H' : Hp} (a : SameBut S H H') : SameBN S H H' := fun c o n h _ => a c o n h
theorem SameBN.after {S : Addr → Prop} {H H1 H2 : Hp} (a : Same H H1) (b : SameBN S H1 H2) (n : ∀ d, S d → H d = none) : ExtN H H2 := fun c o h k => b c o (fun z => by
  rw [n c z] at h
  cases h) (a c o h) k
theorem Drw.kpN {H H' : Hp} {d : Addr} {k : Nat} (h : Drw H d k) (s : ∀ o, H d = some o → (∀ ps, o ≠ .tbl ps) → H' d = some o) : Drw H' d k := by
  obtain ⟨a, b, e, p⟩ := h
  exact ⟨a, b, s _ e (fun _ z => nomatch z), p⟩
theorem tabs_drw {T : List (Addr × Str)} {H H' : Hp} {d : Addr} {k : Nat} (t : Tabs T H) (hd : Drw H d k) (s : SameBut (· = d) H H') : Tabs T H' := fun z hz => by
  obtain ⟨ps, h1, h2, h3⟩ := t z hz
  obtain ⟨a, b, e, _⟩ := hd
  refine ⟨ps, s _ _ (fun q => by rw [q, e] at h1; cases h1) h1, h2, fun pos cv h => ?_⟩
  obtain ⟨c, e1, e2⟩ := h3 pos cv h
  exact ⟨c, e1, s _ _ (fun q => by rw [q, e] at e2; unfold CodeO at e2; cases e2) e2⟩
/-- for x in [draws(cell) for cell in script[:c] + [0]]: .. -/
theorem outer_okT {T : List (Addr × Str)} {K : PySem.W.Frag} {i : Nat} {c : Nat} {tb : TS} {D : Ends} {a : Addr} {ns : List Int} {H : Hp} {σ : L2.St} (Iv : L2.St → Prop) (hT : Tabs T H) (hv : Iv σ) (h0 : σ[0]? = some (some (.ref a))) (hi : i < σ.length) (hS : SqL K H a (ns.map V.int)) (hl : ns.length ≤ 63)
    (body : ∀ (d : Addr) (σ' : L2.St) (H' : Hp) (N : L2.St → Hp → Prop), Iv σ' → ExtN H H' → Tabs T H' → H d = none → Drw H' d 0 → (∀ σ2 H2, Iv σ2 → SameBN (· = d) H' H2 → Tabs T H2 → N σ2 H2) → tb { D with nx := N, ct := N, bk := D.nx } (σ'.set 1 (some (.ref d))) H')
    (tail : ∀ σ' H', Iv σ' → ExtN H H' → Tabs T H' → D.nx σ' H') :
    tFor (iList K (tLc (iList K (tOp rCat (tSl (rSlL K) (tVar 0) tNoPart (tPart (tC (.int (c : Nat))))) (tLst (tCons (tC (.int 0)) tNil)))) (gName i) tYes (tCall spDraws [] E0 (tCons (tVar i) tNil)) [i])) (gName 1) tb D σ H := by
  refine ⟨_, h0, (c : Nat), rfl, a, _, rfl, hS, fun q nq => ?_⟩
  have s1 := same_upd (o := .lst (cutV (ns.map V.int) none (some (c : Nat)))) nq
  refine ⟨(by show 1 ≤ sizeLine; decide), fun z nz => ?_⟩
  have s2 := same_upd (o := .lst [.int 0]) nz
  have hcl : (cutV (ns.map V.int) none (some (c : Nat))).length ≤ 63 := by
    refine Nat.le_trans (cutV_length _ _ _) ?_
    rw [List.length_map]
    exact hl
  have hci : ∀ x ∈ cutV (ns.map V.int) none (some (c : Nat)) ++ [V.int 0], ∃ i, x = V.int i := by
    intro x hx
    rcases List.mem_append.mp hx with hx | hx
    · rw [cut_to] at hx
      obtain ⟨i, _, rfl⟩ := List.mem_map.mp (List.mem_of_mem_take hx)
      exact ⟨i, rfl⟩
    · exact ⟨0, List.mem_singleton.mp hx⟩
  refine ⟨q, z, _, _, rfl, rfl, s2 _ _ upd_same, upd_same, ?_, fun l nl => ?_⟩
  · exact Nat.le_trans (Nat.add_le_add hcl (Nat.le_refl 1)) (by decide)
  have s3 := same_upd (o := .lst (cutV (ns.map V.int) none (some (c : Nat)) ++ [V.int 0])) nl
  have hl3 : (upd (upd (upd H q (.lst (cutV (ns.map V.int) none (some (c : Nat))))) z (.lst [.int 0])) l (.lst (cutV (ns.map V.int) none (some (c : Nat)) ++ [V.int 0]))) l = some (.lst (cutV (ns.map V.int) none (some (c : Nat)) ++ [V.int 0])) := upd_same
  have hlen : (cutV (ns.map V.int) none (some (c : Nat)) ++ [V.int 0]).length ≤ 64 := by
    rw [List.length_append]
    exact Nat.succ_le_succ hcl
  have sH := (s1.trans s2).trans s3
  generalize cutV (ns.map V.int) none (some (c : Nat)) ++ [V.int 0] = cells at hci hlen hl3 sH ⊢
  generalize upd (upd (upd H q (.lst (cutV (ns.map V.int) none (some (c : Nat))))) z (.lst [.int 0])) l (.lst cells) = H0 at hl3 sH ⊢
  refine ⟨l, rfl, ⟨_, sqL_of hl3⟩, fun D0 nD => ?_⟩
  refine lc_list (K := K) (a := l) (xs := cells) (fun i H' => ∃ ds : List Addr, Same H0 H' ∧ H' D0 = some (.lst (ds.map V.ref)) ∧ ds.Nodup ∧ D0 ∉ ds ∧ ds.length ≤ i ∧ (∀ d ∈ ds, Drw H' d 0 ∧ H0 d = none))
    ⟨[], same_upd nD, upd_same, List.nodup_nil, List.not_mem_nil, Nat.zero_le _, fun d hd => (List.not_mem_nil hd).elim⟩ (fun i H' _ ⟨_, s3, _⟩ => sqL_of (s3 _ _ hl3)) ?_ ?_
  · rintro j x H1 hx ⟨ds, s3, hD, nd, nDd, hdl, hdr⟩
    have hil : j < 64 := Nat.lt_of_lt_of_le (List.getElem?_eq_some_iff.mp hx).1 hlen
    obtain ⟨v, rfl⟩ := hci x (List.mem_of_getElem? hx)
    refine ⟨by show ((σ.set i none).set i (some (V.int v))).set i none = σ.set i none; rw [List.set_set, List.set_set], yes (iteT ?_)⟩
    refine ⟨.int v, by show ((σ.set i none).set i (some (V.int v)))[i]? = _; rw [List.getElem?_set_self (by rw [List.length_set]; exact hi)], v, rfl, fun H2 d s4 nd1 dr => ?_⟩
    have dD : d ≠ D0 := fun e => by
      rw [e, hD] at nd1
      cases nd1
    have dn : d ∉ ds := fun m => (hdr d m).1.ne nd1
    have keep : ∀ {d' : Addr} {k : Nat} {o : HO}, d' ≠ D0 → Drw H2 d' k → Drw (upd H2 D0 o) d' k := fun n h => h.kp fun o e => by
      rw [upd_ne n]
      exact e
    refine ⟨_, s4 _ _ hD, by rw [List.length_map]; exact small1000 (by omega), ds ++ [d], Same.mut (s3.trans s4) nD, ?_, ?_, ?_, ?_, ?_⟩
    · rw [upd_same, map_snoc]
    · exact List.nodup_append.mpr ⟨nd, by simp, fun a ha b hb => by
        rw [List.mem_singleton.mp hb]
        exact fun e => dn (e ▸ ha)⟩
    · intro m
      rcases List.mem_append.mp m with m | m
      · exact nDd m
      · exact dD (List.mem_singleton.mp m).symm
    · rw [List.length_append]
      exact Nat.succ_le_succ hdl
    · intro d' hd'
      rcases List.mem_append.mp hd' with m | m
      · exact ⟨keep (fun e => nDd (e ▸ m)) ((hdr d' m).1.kp fun o e => s4 _ _ e), (hdr d' m).2⟩
      · rw [List.mem_singleton.mp m]
        exact ⟨keep dD dr, s3.free nd1⟩
  · rintro H1 ⟨ds, s3, hD, nd, nDd, hdl, hdr⟩
    refine ⟨D0, rfl, ⟨_, sqL_of hD⟩, ?_⟩
    refine for_list (K := K) (a := D0) (xs := ds.map V.ref) (fun i σ' H' => Iv σ' ∧ SameBN (· ∈ ds) H1 H' ∧ Tabs T H' ∧ ∀ (j : Nat) (d : Addr), i ≤ j → ds[j]? = some d → Drw H' d 0)
      ⟨hv, SameBN.refl _ _, hT.ext (sH.trans s3), fun j d _ e => (hdr d (List.mem_of_getElem? e)).1⟩ (fun i σ H' _ ⟨_, b, _⟩ => sqL_of (b _ _ nDd hD fun _ z => nomatch z)) ?_ ?_
    · rintro j x σ' H2 hx ⟨iv, b2, t2, hj⟩
      rw [List.getElem?_map] at hx
      obtain ⟨d, hd, rfl⟩ := Option.map_eq_some_iff.mp hx
      have md : d ∈ ds := List.mem_of_getElem? hd
      have sHH : ExtN H H2 := SameBN.after (sH.trans s3) b2 (fun d hd => by
        have := (hdr d hd).2
        exact sH.free this)
      refine body d σ' H2 _ iv sHH t2 (sH.free (hdr d md).2) (hj j d (Nat.le_refl _) hd) fun σ2 H3 iv2 b3 t3 => ⟨iv2, b2.trans fun b o n e => b3 b o (fun z => n (z ▸ md)) e, t3, fun j' d' hij e => ?_⟩
      have dne : d' ≠ d := fun z => by
        have h1 := (List.getElem?_inj (i := j') (j := j) (List.getElem?_eq_some_iff.mp e).1 nd).mp (by rw [e, hd, z])
        omega
      exact (hj j' d' (by omega) e).kpN fun o e n => b3 _ _ dne e n
    · rintro σ' H2 ⟨iv, b2, t2, _⟩
      exact tail σ' H2 iv (SameBN.after (sH.trans s3) b2 (fun d hd => sH.free (hdr d hd).2)) t2
end Un

set_option maxRecDepth 100000
set_option maxHeartbeats 8000000
namespace Un
open PySem PySem.Spec PyProof.Rows L2
section
variable {P : Program} {w : World} {K : PySem.W.Frag} {mg : Str → Option Value} {base : Heap}
-- _law_odd_webs: 0:_law_size 1:_law_told 2:_law_good 3:_law_things 4:_law_thing 5:_law_k
def a_l_odd_webs_1 : STs := (.cons (.app 1 (.tup (.cons (.lst (.cons (.var 4) .nil)) (.cons (.cst (.int 0)) .nil))))
      (.cons (.app 1 (.tup (.cons (.bin .add (.var 2) (.lst (.cons (.var 4) .nil))) (.cons (.cb .len (.cons (.var 2) .nil)) .nil))))
      (.cons (.app 1 (.tup (.cons (.bin .add (.var 2) (.lst (.cons (.var 4) (.cons (.cst .none) .nil)))) (.cons (.cb .len (.cons (.var 2) .nil)) .nil))))
      (.one (.app 1 (.tup (.cons (.bin .add (.lst (.cons (.var 4) .nil)) (.var 2)) (.cons (.cst (.int 0)) .nil))))))))
def a_l_odd_webs : STs := (.cons (.asg (.nm 1) (.lc .list (.cons (.lst (.cons (.cst .none) (.cons (.tup .nil) (.cons (.tup (.cons (.tup (.cons (.cst (.int 1)) (.cons (.cst (.int 2)) .nil))) .nil)) (.cons .dic0 (.cons (.cst (.str "12")) (.cons (.cst (.int 5)) .nil))))))) .nil) (.nm 4) .no (.tup (.cons (.var 4) (.cons (.cst .none) .nil))) [4]))
    (.cons (.asg (.nm 2) (.lc .rng2 (.cons (.cst (.int 2)) (.cons (.bin .add (.var 0) (.cst (.int 1))) .nil)) (.nm 5) .no (.tup (.cons (.cst (.int 1)) (.cons (.var 5) .nil))) [5]))
    (.cons (.asg (.nm 3) (.lst (.cons (.cst .none) (.cons (.tup .nil) (.cons (.tup (.cons (.cst (.int 1)) .nil)) (.cons (.tup (.cons (.cst (.int 1)) (.cons (.cst (.int 2)) (.cons (.cst (.int 3)) .nil)))) (.cons (.lst (.cons (.cst (.int 1)) (.cons (.cst (.int 2)) .nil))) (.cons (.cst (.str "12")) (.cons (.tup (.cons (.cst (.int 2)) (.cons (.cst (.int 1)) .nil))) (.cons (.tup (.cons (.cst (.int 1)) (.cons (.cst (.int 1)) .nil))) (.cons (.tup (.cons (.cst (.int 0)) (.cons (.cst (.int 1)) .nil))) (.cons (.tup (.cons (.cst (.int 1)) (.cons (.bin .add (.var 0) (.cst (.int 1))) .nil))) (.cons (.tup (.cons (.cst (.bool true)) (.cons (.cst (.int 2)) .nil))) (.cons (.tup (.cons (.cst (.int 1)) (.cons (.cst .none) .nil))) .nil))))))))))))))
    (.cons (.for .list (.cons (.bin .add (.var 3) (.lst (.cons (.tup (.cons (.cst .none) (.cons (.cst (.int 2)) .nil))) (.cons (.tup (.cons (.cst (.str "1")) (.cons (.cst (.int 2)) .nil))) (.cons (.tup (.cons (.lst (.cons (.cst (.int 1)) .nil)) (.cons (.cst (.int 2)) .nil))) (.cons (.tup (.cons (.un .neg (.cst (.int 1))) (.cons (.cst (.int 2)) .nil))) (.cons (.tup (.cons (.un .neg (.cst (.int 2))) (.cons (.un .neg (.cst (.int 1))) .nil))) (.cons (.tup (.cons (.cst (.int 1)) (.cons (.cst (.str "2")) .nil))) (.cons (.tup (.cons (.cst (.int 1)) (.cons (.lst (.cons (.cst (.int 2)) .nil)) .nil))) .nil))))))))) .nil) (.nm 4) a_l_odd_webs_1)
    (.cons (.ifs (.val (.bin .gt (.var 0) (.cst (.int 2)))) (.cons (.app 1 (.tup (.cons (.bin .add (.var 2) (.sl (.var 2) (.at (.un .neg (.cst (.int 1)))) .no)) (.cons (.cb .len (.cons (.var 2) .nil)) .nil))))
      (.one (.app 1 (.tup (.cons (.bin .add (.rev (.var 2)) (.lst (.cons (.cst .none) .nil))) (.cons (.cst (.int 1)) .nil)))))) .nil)
    (.one (.ret (.var 1))))))))
def fn_l_odd_webs : FnZ := runZ 1 6 a_l_odd_webs
theorem ok_l_odd_webs {f : Addr} {fd : FuncData} (F : Fun K "_law_odd_webs" "_law_odd_webs" s_l_odd_webs f fd) (T : Txt mg)  : FnG P w K mg base 1 f fd ["_law_size"] (spZ fn_l_odd_webs) :=
  fnG_Z F sc_l_odd_webs a_l_odd_webs (by decide) fun cdv A outer s H hg hr => (pss_cons (ps_setLc (i := 1) (own := [("_law_thing", 4)]) rfl sc_l_odd_webs.nd rfl rfl (sw_true rfl rfl rfl (by decide +kernel)) (pi_any (pe_lst (pa_cons pe_non (pa_cons (pe_tup pa_nil) (pa_cons (pe_tup (pa_cons (pe_tup (pa_cons pe_int (pa_cons pe_int pa_nil))) pa_nil)) (pa_cons pe_dnewK (pa_cons pe_str (pa_cons pe_int pa_nil)))))))) (blkOk_by (by kernel_rfl)) (fun _ _ _ _ _ => (pg_name (i := 4) sc_l_odd_webs.nd rfl (by first | exact Or.inl rfl | exact Or.inr rfl))) (fun _ _ _ _ _ => pts_nil) (fun _ _ _ _ _ => (pe_tup (pa_cons (pv 4) (pa_cons pe_non pa_nil)))))
    (pss_cons (ps_setLc (i := 2) (own := [("_law_k", 5)]) rfl sc_l_odd_webs.nd rfl rfl (sw_true rfl rfl rfl (by decide +kernel)) (pi_range2 (by rfl) T.n_range (pa_cons pe_int (pa_cons (pe_op op_addZ (pv 0) pe_int) pa_nil))) (blkOk_by (by kernel_rfl)) (fun _ _ _ _ _ => (pg_name (i := 5) sc_l_odd_webs.nd rfl (by first | exact Or.inl rfl | exact Or.inr rfl))) (fun _ _ _ _ _ => pts_nil) (fun _ _ _ _ _ => (pe_tup (pa_cons pe_int (pa_cons (pv 5) pa_nil)))))
    (pss_cons (ps_set (i := 3) sc_l_odd_webs.nd rfl (by first | exact Or.inl rfl | exact Or.inr rfl) (pe_lst (pa_cons pe_non (pa_cons (pe_tup pa_nil) (pa_cons (pe_tup (pa_cons pe_int pa_nil)) (pa_cons (pe_tup (pa_cons pe_int (pa_cons pe_int (pa_cons pe_int pa_nil)))) (pa_cons (pe_lst (pa_cons pe_int (pa_cons pe_int pa_nil))) (pa_cons pe_str (pa_cons (pe_tup (pa_cons pe_int (pa_cons pe_int pa_nil))) (pa_cons (pe_tup (pa_cons pe_int (pa_cons pe_int pa_nil))) (pa_cons (pe_tup (pa_cons pe_int (pa_cons pe_int pa_nil))) (pa_cons (pe_tup (pa_cons pe_int (pa_cons (pe_op op_addZ (pv 0) pe_int) pa_nil))) (pa_cons (pe_tup (pa_cons pe_bl (pa_cons pe_int pa_nil))) (pa_cons (pe_tup (pa_cons pe_int (pa_cons pe_non pa_nil))) pa_nil))))))))))))))
    (pss_cons (ps_for PassesOwn.never rfl (pi_any (pe_op op_addZ (pv 3) (pe_lst (pa_cons (pe_tup (pa_cons pe_non (pa_cons pe_int pa_nil))) (pa_cons (pe_tup (pa_cons pe_str (pa_cons pe_int pa_nil))) (pa_cons (pe_tup (pa_cons (pe_lst (pa_cons pe_int pa_nil)) (pa_cons pe_int pa_nil))) (pa_cons (pe_tup (pa_cons (pe_un un_neg pe_int) (pa_cons pe_int pa_nil))) (pa_cons (pe_tup (pa_cons (pe_un un_neg pe_int) (pa_cons (pe_un un_neg pe_int) pa_nil))) (pa_cons (pe_tup (pa_cons pe_int (pa_cons pe_str pa_nil))) (pa_cons (pe_tup (pa_cons pe_int (pa_cons (pe_lst (pa_cons pe_int pa_nil)) pa_nil))) pa_nil)))))))))) (pg_name (i := 4) sc_l_odd_webs.nd rfl (by first | exact Or.inl rfl | exact Or.inr rfl)) (pss_cons (ps_expr (pe_bm PySem.F.plainAttrs_list PySem.F.slot_list_append PySem.F.type_list_append mt_append (pv 1) (pa_cons (pe_tup (pa_cons (pe_lst (pa_cons (pv 4) pa_nil)) (pa_cons pe_int pa_nil))) pa_nil)))
      (pss_cons (ps_expr (pe_bm PySem.F.plainAttrs_list PySem.F.slot_list_append PySem.F.type_list_append mt_append (pv 1) (pa_cons (pe_tup (pa_cons (pe_op op_addZ (pv 2) (pe_lst (pa_cons (pv 4) pa_nil))) (pa_cons (pe_callB cr_lenZ (by rfl) T.n_len (by decide +kernel) (pa_cons (pv 2) pa_nil)) pa_nil))) pa_nil)))
      (pss_cons (ps_expr (pe_bm PySem.F.plainAttrs_list PySem.F.slot_list_append PySem.F.type_list_append mt_append (pv 1) (pa_cons (pe_tup (pa_cons (pe_op op_addZ (pv 2) (pe_lst (pa_cons (pv 4) (pa_cons pe_non pa_nil)))) (pa_cons (pe_callB cr_lenZ (by rfl) T.n_len (by decide +kernel) (pa_cons (pv 2) pa_nil)) pa_nil))) pa_nil)))
      (pss_one (ps_expr (pe_bm PySem.F.plainAttrs_list PySem.F.slot_list_append PySem.F.type_list_append mt_append (pv 1) (pa_cons (pe_tup (pa_cons (pe_op op_addZ (pe_lst (pa_cons (pv 4) pa_nil)) (pv 2)) (pa_cons pe_int pa_nil))) pa_nil))))))))
    (pss_cons (ps_if (pt_cmpR op_gt (pv 0) pe_int (by rfl)) (pss_cons (ps_expr (pe_bm PySem.F.plainAttrs_list PySem.F.slot_list_append PySem.F.type_list_append mt_append (pv 1) (pa_cons (pe_tup (pa_cons (pe_op op_addZ (pv 2) (pe_slice sl_list (pv 2) (po_some (pe_un un_neg pe_int)) po_none)) (pa_cons (pe_callB cr_lenZ (by rfl) T.n_len (by decide +kernel) (pa_cons (pv 2) pa_nil)) pa_nil))) pa_nil)))
      (pss_one (ps_expr (pe_bm PySem.F.plainAttrs_list PySem.F.slot_list_append PySem.F.type_list_append mt_append (pv 1) (pa_cons (pe_tup (pa_cons (pe_op op_addZ (pe_revL (pv 2)) (pe_lst (pa_cons pe_non pa_nil))) (pa_cons pe_int pa_nil))) pa_nil))))) pss_nil)
    (pss_one (ps_ret (pv 1))))))))
end
end Un

set_option maxHeartbeats 1000000
namespace Un
/-! ### orders tell the ways: the mathematics -/
def nbr (c : Int) (e : Int × Int) : Option Int := if e.1 = c then some e.2 else if e.2 = c then some e.1 else none
def nbrs (c : Int) (X : List (Int × Int)) : List Int := X.filterMap (nbr c)
def follow : Int → List (Int × Int) → List Int
  | _, [] => []
  | c, e :: X => match nbr c e with
    | some v => v :: follow v X
    | none => follow c X
theorem nbrs_append (c : Int) (A B : List (Int × Int)) : nbrs c (A ++ B) = nbrs c A ++ nbrs c B := List.filterMap_append
theorem nbrs_cons (c : Int) (e : Int × Int) (B : List (Int × Int)) : nbrs c (e :: B) = (nbr c e).toList ++ nbrs c B := by
  unfold nbrs
  rw [List.filterMap_cons]
  cases nbr c e <;> rfl
def IncL (n : Int) (X : List (Int × Int)) : Prop := ∀ e ∈ X, 1 ≤ e.1 ∧ e.1 < e.2 ∧ e.2 ≤ n
theorem nbr_in {n c v : Int} {e : Int × Int} (h : 1 ≤ e.1 ∧ e.1 < e.2 ∧ e.2 ≤ n) (hv : nbr c e = some v) : 1 ≤ v ∧ v ≤ n ∧ ((e.1 = c ∧ e.2 = v) ∨ (e.2 = c ∧ e.1 = v)) ∧ nbr v e = some c := by
  unfold nbr at hv ⊢
  split at hv
  · rename_i h1
    have h2 := Option.some.inj hv
    refine ⟨by omega, by omega, .inl ⟨h1, h2⟩, ?_⟩
    rw [if_neg (by omega), if_pos h2, h1]
  · split at hv
    · rename_i h1 h2
      have h3 := Option.some.inj hv
      refine ⟨by omega, by omega, .inr ⟨h2, h3⟩, ?_⟩
      rw [if_pos h3, h2]
    · cases hv
theorem nbr_both {n c v : Int} {e f : Int × Int} (he : 1 ≤ e.1 ∧ e.1 < e.2 ∧ e.2 ≤ n) (hf : 1 ≤ f.1 ∧ f.1 < f.2 ∧ f.2 ≤ n) (h1 : nbr c e = some v) (h2 : nbr c f = some v) : e = f := by
  have a := (nbr_in he h1).2.2.1
  have b := (nbr_in hf h2).2.2.1
  refine Prod.ext ?_ ?_ <;> omega
/-- the ways are what is followed -/
theorem ways_follow {n : Int} : ∀ {es : List (Int × Int)} {xss : List (List Int)}, IncL n es → ∀ {i : Int}, 1 ≤ i → i ≤ xss.length → row xss i ≠ [] → row (es.foldl wStep xss) i = row xss i ++ follow (lst (row xss i)) es
  | [], _, _, i, _, _, _ => by
    show _ = _ ++ []
    rw [List.append_nil]
    rfl
  | e :: es, xss, hI, i, i1, i2, hne => by
    have he := hI e List.mem_cons_self
    have hr : row (wStep xss e) i = wOne e (row xss i) := row_map i1 i2
    have hl : (wStep xss e).length = xss.length := by
      unfold wStep
      rw [List.length_map]
    show row (es.foldl wStep (wStep xss e)) i = row xss i ++ follow (lst (row xss i)) (e :: es)
    have ih := ways_follow (es := es) (xss := wStep xss e) (fun f hf => hI f (List.mem_cons_of_mem _ hf)) i1 (by omega)
    rw [hr] at ih
    generalize row xss i = w at hne ih ⊢
    unfold wOne at ih
    show _ = w ++ (match nbr (lst w) e with
      | some v => v :: follow v es
      | none => follow (lst w) es)
    by_cases c1 : lst w = e.1
    · rw [if_pos c1] at ih
      have hn : nbr (lst w) e = some e.2 := by
        unfold nbr
        rw [if_pos c1.symm]
      rw [hn, ih (by simp), lst_snoc, List.append_assoc] <;> rfl
    · rw [if_neg c1] at ih
      by_cases c2 : lst w = e.2
      · rw [if_pos c2] at ih
        have hn : nbr (lst w) e = some e.1 := by
          unfold nbr
          rw [if_neg fun z => c1 z.symm, if_pos c2.symm]
        rw [hn, ih (by simp), lst_snoc, List.append_assoc] <;> rfl
      · rw [if_neg c2] at ih
        have hn : nbr (lst w) e = none := by
          unfold nbr
          rw [if_neg fun z => c1 z.symm, if_neg fun z => c2 z.symm]
        rw [hn, ih hne]
theorem row_ways {n : Int} {es : List (Int × Int)} (hI : IncL n es) {i : Int} (i1 : 1 ≤ i) (i2 : i ≤ n) : row (waysF n es) i = i :: follow i es := by
  unfold waysF
  rw [ways_follow hI i1 (by rw [ways0_len]; omega) (by rw [row_ways0 i1 i2]; exact fun z => nomatch z), row_ways0 i1 i2] <;> rfl
theorem ords_nbrs {n : Int} : ∀ {es : List (Int × Int)} {xss : List (List Int)}, IncL n es → (xss.length : Int) = n → ∀ {c : Int}, 1 ≤ c → c ≤ n → row (es.foldl oStep xss) c = row xss c ++ nbrs c es
  | [], _, _, _, c, _, _ => by
    show _ = _ ++ []
    rw [List.append_nil]
    rfl
  | e :: es, xss, hI, hl, c, c1, c2 => by
    obtain ⟨i1, i2, i3⟩ := hI e List.mem_cons_self
    have hl1 : ((oStep xss e).length : Int) = n := by
      unfold oStep
      rw [put_len, put_len]
      exact hl
    show row (es.foldl oStep (oStep xss e)) c = _
    rw [ords_nbrs (es := es) (fun f hf => hI f (List.mem_cons_of_mem _ hf)) hl1 c1 c2, nbrs_cons]
    have hr : row (oStep xss e) c = row xss c ++ (nbr c e).toList := by
      unfold oStep
      rw [row_put (by omega) (by rw [put_len]; omega) c1, row_put (by omega) (by omega) (by omega), row_put (by omega) (by omega) c1]
      unfold nbr
      by_cases d2 : c = e.2
      · rw [if_pos d2, if_neg (by omega), if_neg (by omega), if_pos d2.symm, d2] <;> rfl
      · rw [if_neg d2]
        by_cases d1 : c = e.1
        · rw [if_pos d1, if_pos d1.symm, d1] <;> rfl
        · rw [if_neg d1, if_neg fun z => d1 z.symm, if_neg fun z => d2 z.symm]
          show _ = _ ++ []
          rw [List.append_nil]
    rw [hr, List.append_assoc]
theorem row_ords {n : Int} (hn : 0 ≤ n) {es : List (Int × Int)} (hI : IncL n es) {c : Int} (c1 : 1 ≤ c) (c2 : c ≤ n) : row (ordF n es) c = nbrs c es := by
  unfold ordF
  rw [ords_nbrs hI (by rw [ords0_len]; omega) c1 c2]
  have z : row (ords0 n) c = [] := by
    unfold row ords0
    have hi : (c - 1).toNat < (cs n).length := by
      rw [cs_len]
      omega
    rw [List.getD_eq_getElem?_getD, List.getElem?_map, List.getElem?_eq_getElem hi] <;> rfl
  rw [z, List.nil_append]
/-- the first exchange at a cell -/
theorem first_at (c : Int) : ∀ (X : List (Int × Int)), (nbrs c X = [] ∧ follow c X = []) ∨ ∃ A e B v, X = A ++ e :: B ∧ nbrs c A = [] ∧ nbr c e = some v ∧ nbrs c X = v :: nbrs c B ∧ follow c X = v :: follow v B
  | [] => .inl ⟨rfl, rfl⟩
  | f :: X => by
    rw [nbrs_cons]
    show (_ ∧ (match nbr c f with
      | some v => v :: follow v X
      | none => follow c X) = []) ∨ ∃ A e B v, _ ∧ _ ∧ _ ∧ _ ∧ (match nbr c f with
      | some v => v :: follow v X
      | none => follow c X) = _
    cases h : nbr c f with
    | some v => exact .inr ⟨[], f, X, v, rfl, rfl, h, rfl, rfl⟩
    | none =>
      rcases first_at c X with ⟨z1, z2⟩ | ⟨A, e, B, v, e1, e2, e3, e4, e5⟩
      · exact .inl ⟨z1, z2⟩
      · refine .inr ⟨f :: A, e, B, v, by rw [e1] <;> rfl, ?_, e3, e4, e5⟩
        rw [nbrs_cons, h, e2] <;> rfl
/-- where the exchange is in the order at the other cell -/
theorem after_at {n c v : Int} {es P A B : List (Int × Int)} {e : Int × Int} (hI : IncL n es) (hN : es.Nodup) (hs : es = P ++ (A ++ e :: B)) (hv : nbr c e = some v) :
    nbrs v es = nbrs v (P ++ A) ++ c :: nbrs v B ∧ c ∉ nbrs v (P ++ A) := by
  have he : e ∈ es := by
    rw [hs]
    simp
  have ie := hI e he
  obtain ⟨v1, v2, v3, v4⟩ := nbr_in ie hv
  refine ⟨?_, fun m => ?_⟩
  · rw [hs, ← List.append_assoc, nbrs_append, nbrs_cons, v4] <;> rfl
  · obtain ⟨f, hf, hc⟩ := List.mem_filterMap.mp m
    have hf2 : f ∈ es := by
      rw [hs, ← List.append_assoc]
      exact List.mem_append_left _ hf
    have ef := nbr_both ie (hI f hf2) v4 hc
    rw [hs, ← List.append_assoc] at hN
    obtain ⟨_, _, h3⟩ := List.nodup_append.mp hN
    exact h3 f hf e List.mem_cons_self ef.symm
theorem cut_uniq {c : Int} : ∀ {A A' B B' : List Int}, A ++ c :: B = A' ++ c :: B' → c ∉ A → c ∉ A' → B = B'
  | [], [], _, _, h, _, _ => (List.cons.inj h).2
  | [], a :: A', _, _, h, _, h2 => absurd ((List.cons.inj h).1 ▸ List.mem_cons_self) h2
  | a :: A, [], _, _, h, h1, _ => absurd ((List.cons.inj h).1 ▸ List.mem_cons_self) h1
  | a :: A, a' :: A', _, _, h, h1, h2 => cut_uniq (A := A) (A' := A') (List.cons.inj h).2 (fun m => h1 (List.mem_cons_of_mem _ m)) fun m => h2 (List.mem_cons_of_mem _ m)
/-- the same orders, the same ways -/
theorem follow_same {n : Int} {es fs : List (Int × Int)} (hI : IncL n es) (hN : es.Nodup) (hJ : IncL n fs) (hM : fs.Nodup) (h : ∀ c, 1 ≤ c → c ≤ n → nbrs c es = nbrs c fs) :
    ∀ (m : Nat) {c : Int} {P B P' B' : List (Int × Int)}, B.length ≤ m → 1 ≤ c → c ≤ n → es = P ++ B → fs = P' ++ B' → nbrs c B = nbrs c B' → follow c B = follow c B'
  | m, c, P, B, P', B', hm, c1, c2, e1, e2, hb => by
    rcases first_at c B with ⟨z1, z2⟩ | ⟨A, e, D, v, a1, a2, a3, a4, a5⟩
    · rcases first_at c B' with ⟨y1, y2⟩ | ⟨A', e', D', v', b1, b2, b3, b4, b5⟩
      · rw [z2, y2]
      · rw [z1, b4] at hb
        cases hb
    · rcases first_at c B' with ⟨y1, y2⟩ | ⟨A', e', D', v', b1, b2, b3, b4, b5⟩
      · rw [a4, y1] at hb
        cases hb
      · rw [a4, b4] at hb
        obtain ⟨ev, hb'⟩ := List.cons.inj hb
        subst ev
        have he : e ∈ es := by
          rw [e1, a1]
          simp
        obtain ⟨v1, v2, _⟩ := nbr_in (hI e he) a3
        obtain ⟨p1, p2⟩ := after_at hI hN (by rw [← a1]; exact e1) a3
        obtain ⟨q1, q2⟩ := after_at hJ hM (by rw [← b1]; exact e2) b3
        have hD : nbrs v D = nbrs v D' := cut_uniq (by rw [← p1, ← q1]; exact h v v1 v2) p2 q2
        match m with
        | 0 =>
          rw [a1, List.length_append, List.length_cons] at hm
          omega
        | m + 1 =>
          rw [a5, b5]
          rw [a1, List.length_append, List.length_cons] at hm
          rw [follow_same hI hN hJ hM h m (P := P ++ (A ++ [e])) (P' := P' ++ (A' ++ [e'])) (by omega) v1 v2 (by rw [e1, a1]; simp) (by rw [e2, b1]; simp) hD]
theorem ords_ways {n : Int} (hn : 0 ≤ n) {es fs : List (Int × Int)} (hI : IncL n es) (hN : es.Nodup) (hJ : IncL n fs) (hM : fs.Nodup) (h : ordF n es = ordF n fs) : waysF n es = waysF n fs := by
  have hb : ∀ c, 1 ≤ c → c ≤ n → nbrs c es = nbrs c fs := fun c c1 c2 => by rw [← row_ords hn hI c1 c2, ← row_ords hn hJ c1 c2, h]
  refine ext_row (by rw [waysF_len, waysF_len]) fun i i1 i2 => ?_
  rw [waysF_len] at i2
  rw [row_ways hI i1 (by omega), row_ways hJ i1 (by omega), follow_same hI hN hJ hM hb es.length (P := []) (P' := []) (Nat.le_refl _) i1 (by omega) rfl rfl (hb i i1 (by omega))]
theorem ords_ends {n : Int} (hn : 0 ≤ n) {es fs : List (Int × Int)} (hI : IncL n es) (hN : es.Nodup) (hJ : IncL n fs) (hM : fs.Nodup) (h : ordF n es = ordF n fs) : endsF n es = endsF n fs := by
  unfold endsF
  rw [ords_ways hn hI hN hJ hM h]
/-- two neighbours without a common cell change places -/
theorem nbrs_swap {c : Int} {x y : Int × Int} (h1 : x.1 ≠ y.1) (h2 : x.1 ≠ y.2) (h3 : x.2 ≠ y.1) (h4 : x.2 ≠ y.2) (A B : List (Int × Int)) : nbrs c (A ++ (x :: y :: B)) = nbrs c (A ++ (y :: x :: B)) := by
  rw [nbrs_append, nbrs_append, nbrs_cons, nbrs_cons, nbrs_cons, nbrs_cons]
  congr 1
  have : nbr c x = none ∨ nbr c y = none := by
    unfold nbr
    by_cases a : x.1 = c
    · right
      rw [if_neg (by omega), if_neg (by omega)]
    · by_cases b : x.2 = c
      · right
        rw [if_neg (by omega), if_neg (by omega)]
      · left
        rw [if_neg a, if_neg b]
  rcases this with h | h <;> rw [h] <;> simp
theorem ords_of_nbrs {n : Int} (hn : 0 ≤ n) {es fs : List (Int × Int)} (hI : IncL n es) (hJ : IncL n fs) (h : ∀ c, nbrs c es = nbrs c fs) : ordF n es = ordF n fs := by
  have l : ∀ X : List (Int × Int), (ordF n X).length = n.toNat := fun X => by
    unfold ordF
    rw [ordF_len', ords0_len]
  refine ext_row (by rw [l, l]) fun i i1 i2 => ?_
  rw [l] at i2
  rw [row_ords hn hI i1 (by omega), row_ords hn hJ i1 (by omega), h]
end Un

set_option maxHeartbeats 1000000
namespace Un
/-! ### turns: the mathematics -/
abbrev PT : Type := (Int × Int) × Int
def has (c : Int) (e : Int × Int) : Bool := decide (e.1 = c) || decide (e.2 = c)
theorem has_iff {c : Int} {e : Int × Int} : has c e = true ↔ e.1 = c ∨ e.2 = c := by
  unfold has
  rw [Bool.or_eq_true, decide_eq_true_eq, decide_eq_true_eq]
def mx2 (a b : Int) : Int := if b > a then b else a
theorem mx2_ge (a b : Int) : a ≤ mx2 a b ∧ b ≤ mx2 a b ∧ (mx2 a b = a ∨ mx2 a b = b) := by
  unfold mx2
  split <;> omega
def tOf (l : Int → Int) (e : Int × Int) : Int := 1 + mx2 (l e.1) (l e.2)
def tUp (l : Int → Int) (e : Int × Int) (t : Int) : Int → Int := fun c => if c = e.1 ∨ c = e.2 then t else l c
def tRun : (Int → Int) → List (Int × Int) → List PT
  | _, [] => []
  | l, e :: es => (e, tOf l e) :: tRun (tUp l e (tOf l e)) es
def tSt : (Int → Int) → List (Int × Int) → Int → Int
  | l, [] => l
  | l, e :: es => tSt (tUp l e (tOf l e)) es
def tz (es : List (Int × Int)) : List PT := tRun (fun _ => 0) es
def turnsF (es : List (Int × Int)) : List Int := (tz es).map (·.2)
theorem tRun_fst : ∀ (l : Int → Int) (es : List (Int × Int)), (tRun l es).map (·.1) = es
  | _, [] => rfl
  | l, e :: es => by
    show e :: (tRun _ es).map (·.1) = _
    rw [tRun_fst]
theorem tRun_append : ∀ (l : Int → Int) (A B : List (Int × Int)), tRun l (A ++ B) = tRun l A ++ tRun (tSt l A) B
  | _, [], _ => rfl
  | l, e :: A, B => by
    show (e, tOf l e) :: tRun _ (A ++ B) = (e, tOf l e) :: (tRun _ A ++ _)
    rw [tRun_append]
    rfl
theorem tSt_append : ∀ (l : Int → Int) (A B : List (Int × Int)), tSt l (A ++ B) = tSt (tSt l A) B
  | _, [], _ => rfl
  | l, e :: A, B => tSt_append _ A B
theorem tUp_ge (l : Int → Int) (e : Int × Int) (c : Int) : l c ≤ tUp l e (tOf l e) c := by
  have h := mx2_ge (l e.1) (l e.2)
  unfold tUp tOf
  split
  · rename_i z
    rcases z with z | z <;> rw [z] <;> omega
  · exact Int.le_refl _
theorem tRun_gt : ∀ {es : List (Int × Int)} {l : Int → Int} {p : PT}, p ∈ tRun l es → l p.1.1 < p.2 ∧ l p.1.2 < p.2
  | [], _, _, h => (List.not_mem_nil h).elim
  | e :: es, l, p, h => by
    rcases List.mem_cons.mp h with rfl | h
    · have := mx2_ge (l e.1) (l e.2)
      show l e.1 < tOf l e ∧ l e.2 < tOf l e
      unfold tOf
      omega
    · have r := tRun_gt h
      have a := tUp_ge l e p.1.1
      have b := tUp_ge l e p.1.2
      omega
/-- turns grow at each cell -/
theorem tRun_asc (c : Int) : ∀ (es : List (Int × Int)) (l : Int → Int), ((tRun l es).filter fun p => has c p.1).Pairwise fun p q => p.2 < q.2
  | [], _ => List.Pairwise.nil
  | e :: es, l => by
    show (((e, tOf l e) :: tRun (tUp l e (tOf l e)) es).filter fun p => has c p.1).Pairwise _
    rw [List.filter_cons]
    have ih := tRun_asc c es (tUp l e (tOf l e))
    split
    · rename_i h
      refine List.pairwise_cons.mpr ⟨fun q hq => ?_, ih⟩
      obtain ⟨h1, h2⟩ := List.mem_filter.mp hq
      have g := tRun_gt h1
      have u : tUp l e (tOf l e) c = tOf l e := by
        unfold tUp
        have := has_iff.mp h
        rw [if_pos]
        rcases this with z | z
        · exact .inl z.symm
        · exact .inr z.symm
      have h3 := has_iff.mp h2
      show tOf l e < q.2
      rw [← u]
      rcases h3 with z | z
      · rw [← z]
        exact g.1
      · rw [← z]
        exact g.2
    · exact ih
theorem tz_asc (c : Int) (es : List (Int × Int)) : ((tz es).filter fun p => has c p.1).Pairwise fun p q => p.2 < q.2 := tRun_asc c es _
/-- what the state tells of a cell -/
theorem tSt_lst (c : Int) : ∀ (es : List (Int × Int)) (l : Int → Int), tSt l es c = (((tRun l es).filter fun p => has c p.1).map (·.2)).getLastD (l c)
  | [], _ => rfl
  | e :: es, l => by
    show tSt (tUp l e (tOf l e)) es c = ((((e, tOf l e) :: tRun (tUp l e (tOf l e)) es).filter fun p => has c p.1).map (·.2)).getLastD (l c)
    rw [tSt_lst c es, List.filter_cons]
    split
    · rename_i h
      have u : tUp l e (tOf l e) c = tOf l e := by
        unfold tUp
        have := has_iff.mp h
        rw [if_pos]
        rcases this with z | z
        · exact .inl z.symm
        · exact .inr z.symm
      rw [u, List.map_cons, List.getLastD_cons]
    · rename_i h
      have u : tUp l e (tOf l e) c = l c := by
        unfold tUp
        rw [if_neg]
        rintro (z | z)
        · exact h (has_iff.mpr (.inl z.symm))
        · exact h (has_iff.mpr (.inr z.symm))
      rw [u]
theorem st_lst (c : Int) (es : List (Int × Int)) : tSt (fun _ => 0) es c = (((tz es).filter fun p => has c p.1).map (·.2)).getLastD 0 := tSt_lst c es _
/-- two lists of the same things that both grow are one -/
theorem grow_uniq {α : Type} (k : α → Int) : ∀ {l m : List α}, l.Perm m → l.Pairwise (fun p q => k p < k q) → m.Pairwise (fun p q => k p ≤ k q) → l = m
  | [], m, h, _, _ => (List.Perm.eq_nil h.symm).symm
  | x :: l, [], h, _, _ => absurd h.length_eq (by simp)
  | x :: l, y :: m, h, a, b => by
    obtain ⟨a1, a2⟩ := List.pairwise_cons.mp a
    obtain ⟨b1, b2⟩ := List.pairwise_cons.mp b
    have e : x = y := by
      rcases List.mem_cons.mp (h.mem_iff.mpr (List.mem_cons_self (a := y) (l := m))) with z | z
      · exact z.symm
      · have g1 := a1 y z
        rcases List.mem_cons.mp (h.mem_iff.mp (List.mem_cons_self (a := x) (l := l))) with w | w
        · exact w
        · have g2 := b1 x w
          omega
    subst e
    rw [grow_uniq k h.cons_inv a2 b2]
/-- sorted by turns the orders stay -/
theorem sorted_filter {es : List (Int × Int)} {zs : List PT} (pm : zs.Perm (tz es)) (srt : zs.Pairwise fun p q => p.2 ≤ q.2) (c : Int) : (zs.filter fun p => has c p.1) = (tz es).filter fun p => has c p.1 :=
  (grow_uniq (·.2) (pm.filter _).symm (tz_asc c es) (srt.filter _)).symm
theorem nbrs_filter (c : Int) : ∀ zs : List PT, nbrs c (zs.map (·.1)) = ((zs.filter fun p => has c p.1).map (·.1)).filterMap (nbr c)
  | [] => rfl
  | p :: zs => by
    rw [List.map_cons, nbrs_cons, List.filter_cons, nbrs_filter c zs]
    split
    · rw [List.map_cons, List.filterMap_cons]
      cases nbr c p.1 <;> rfl
    · rename_i h
      have : nbr c p.1 = none := by
        unfold nbr
        rw [if_neg fun z => h (has_iff.mpr (.inl z)), if_neg fun z => h (has_iff.mpr (.inr z))]
      rw [this] <;> rfl
theorem sorted_nbrs {es : List (Int × Int)} {zs : List PT} (pm : zs.Perm (tz es)) (srt : zs.Pairwise fun p q => p.2 ≤ q.2) (c : Int) : nbrs c (zs.map (·.1)) = nbrs c es := by
  rw [nbrs_filter, sorted_filter pm srt c, ← nbrs_filter]
  unfold tz
  rw [tRun_fst]
theorem cut_one {α : Type} {p : α} : ∀ {A A' B B' : List α}, A ++ p :: B = A' ++ p :: B' → p ∉ A → p ∉ A' → A = A'
  | [], [], _, _, _, _, _ => rfl
  | [], a :: A', _, _, h, _, h2 => absurd ((List.cons.inj h).1 ▸ List.mem_cons_self) h2
  | a :: A, [], _, _, h, h1, _ => absurd ((List.cons.inj h).1 ▸ List.mem_cons_self) h1
  | a :: A, a' :: A', _, _, h, h1, h2 => by
    obtain ⟨e1, e2⟩ := List.cons.inj h
    rw [e1, cut_one e2 (fun m => h1 (List.mem_cons_of_mem _ m)) fun m => h2 (List.mem_cons_of_mem _ m)]
/-- the turns of the sorted log -/
theorem sorted_turns {es : List (Int × Int)} (hN : es.Nodup) {zs : List PT} (pm : zs.Perm (tz es)) (srt : zs.Pairwise fun p q => p.2 ≤ q.2) : tz (zs.map (·.1)) = zs := by
  have nz : (tz es).Nodup := by
    have : ((tz es).map (·.1)).Nodup := by
      unfold tz
      rw [tRun_fst]
      exact hN
    exact List.Pairwise.imp (fun h e => h (congrArg (·.1) e)) (List.pairwise_map.mp this)
  have nzs : zs.Nodup := pm.nodup_iff.mpr nz
  have go : ∀ (k : Nat), k ≤ zs.length → tz ((zs.take k).map (·.1)) = zs.take k := by
    intro k
    induction k with
    | zero => exact fun _ => rfl
    | succ k ih =>
      intro hk
      have hp : zs[k]? = some zs[k] := List.getElem?_eq_getElem (by omega)
      generalize zs[k] = p at hp
      have et : zs.take (k + 1) = zs.take k ++ [p] := by rw [List.take_add_one, hp] <;> rfl
      have ih' := ih (by omega)
      rw [et, List.map_append]
      show tRun (fun _ => 0) ((zs.take k).map (·.1) ++ [p.1]) = _
      rw [tRun_append]
      have e1 : tRun (fun _ => 0) ((zs.take k).map (·.1)) = zs.take k := ih'
      rw [e1]
      -- where p stands in both
      have hmem : p ∈ tz es := pm.mem_iff.mp (List.mem_of_getElem? hp)
      obtain ⟨A, B, hAB⟩ := List.append_of_mem hmem
      have hz : zs = zs.take k ++ p :: zs.drop (k + 1) := by
        have a := List.take_append_drop k zs
        rw [List.drop_eq_getElem_cons (by omega)] at a
        have : zs[k] = p := by
          rw [List.getElem?_eq_getElem (by omega)] at hp
          exact Option.some.inj hp
        rw [this] at a
        exact a.symm
      have np : p ∉ zs.take k := fun m => by
        rw [hz] at nzs
        exact (List.nodup_append.mp nzs).2.2 p m p List.mem_cons_self rfl
      have npA : p ∉ A := fun m => by
        rw [hAB] at nz
        exact (List.nodup_append.mp nz).2.2 p m p List.mem_cons_self rfl
      have pre : ∀ c, has c p.1 = true → ((zs.take k).filter fun q => has c q.1) = A.filter fun q => has c q.1 := fun c hc => by
        have f := sorted_filter pm srt c
        rw [hz, hAB, List.filter_append, List.filter_append, List.filter_cons, if_pos hc, List.filter_cons, if_pos hc] at f
        exact cut_one f (fun m => np ((List.mem_filter.mp m).1)) fun m => npA ((List.mem_filter.mp m).1)
      have eA : tz (A.map (·.1)) = A ∧ p.2 = tOf (tSt (fun _ => 0) (A.map (·.1))) p.1 := by
        have m : (tz es).map (·.1) = es := tRun_fst _ _
        rw [hAB, List.map_append, List.map_cons] at m
        have r : tz es = tRun (fun _ => 0) (A.map (·.1)) ++ tRun (tSt (fun _ => 0) (A.map (·.1))) (p.1 :: B.map (·.1)) := by
          rw [← tRun_append, m] <;> rfl
        rw [hAB] at r
        have l : A.length = (tRun (fun _ => 0) (A.map (·.1))).length := by
          have := congrArg List.length (tRun_fst (fun _ => 0) (A.map (·.1)))
          rw [List.length_map, List.length_map] at this
          exact this.symm
        obtain ⟨r1, r2⟩ := List.append_inj r l
        exact ⟨r1.symm, congrArg (·.2) (List.cons.inj r2).1⟩
      have sc : ∀ c, has c p.1 = true → tSt (fun _ => 0) ((zs.take k).map (·.1)) c = tSt (fun _ => 0) (A.map (·.1)) c := fun c hc => by
        rw [st_lst, st_lst, ih', eA.1, pre c hc]
      have et2 : tOf (tSt (fun _ => 0) ((zs.take k).map (·.1))) p.1 = p.2 := by
        rw [eA.2]
        unfold tOf
        rw [sc p.1.1 (has_iff.mpr (.inl rfl)), sc p.1.2 (has_iff.mpr (.inr rfl))]
      show zs.take k ++ [(p.1, tOf (tSt (fun _ => 0) ((zs.take k).map (·.1))) p.1)] = _
      rw [et2]
  have r := go zs.length (Nat.le_refl _)
  rw [List.take_length] at r
  exact r
/-- below each turn there is another one -/
theorem turn_below : ∀ {es : List (Int × Int)} {p : PT}, p ∈ tz es → 1 ≤ p.2 ∧ (1 < p.2 → ∃ q ∈ tz es, q.2 = p.2 - 1) := by
  intro es p hp
  obtain ⟨A, B, hAB⟩ := List.append_of_mem hp
  have m : (tz es).map (·.1) = es := tRun_fst _ _
  rw [hAB, List.map_append, List.map_cons] at m
  have r : tz es = tRun (fun _ => 0) (A.map (·.1)) ++ tRun (tSt (fun _ => 0) (A.map (·.1))) (p.1 :: B.map (·.1)) := by
    rw [← tRun_append, m] <;> rfl
  have l : A.length = (tRun (fun _ => 0) (A.map (·.1))).length := by
    have := congrArg List.length (tRun_fst (fun _ => 0) (A.map (·.1)))
    rw [List.length_map, List.length_map] at this
    exact this.symm
  obtain ⟨r1, r2⟩ := List.append_inj (hAB.symm.trans r) l
  have eA : tz (A.map (·.1)) = A := r1.symm
  have ep : p.2 = tOf (tSt (fun _ => 0) (A.map (·.1))) p.1 := congrArg (·.2) (List.cons.inj r2).1
  have pos : ∀ q ∈ A, 0 < q.2 := fun q hq => by
    have : q ∈ tRun (fun _ => 0) (A.map (·.1)) := by
      rw [← r1]
      exact hq
    exact (tRun_gt this).1
  have st : ∀ c, tSt (fun _ => 0) (A.map (·.1)) c = 0 ∨ ∃ q ∈ A, q.2 = tSt (fun _ => 0) (A.map (·.1)) c := fun c => by
    rw [st_lst, eA]
    cases h : ((A.filter fun q => has c q.1).map (·.2)).getLast? with
    | none =>
      left
      rw [List.getLastD_eq_getLast?, h] <;> rfl
    | some v =>
      right
      rw [List.getLastD_eq_getLast?, h]
      obtain ⟨q, hq, e⟩ := List.mem_map.mp (List.mem_of_getLast? h)
      exact ⟨q, (List.mem_filter.mp hq).1, e⟩
  have nn : ∀ c, 0 ≤ tSt (fun _ => 0) (A.map (·.1)) c := fun c => by
    rcases st c with z | ⟨q, hq, z⟩
    · omega
    · have := pos q hq
      omega
  have h := mx2_ge (tSt (fun _ => 0) (A.map (·.1)) p.1.1) (tSt (fun _ => 0) (A.map (·.1)) p.1.2)
  have n1 := nn p.1.1
  have n2 := nn p.1.2
  unfold tOf at ep
  refine ⟨by omega, fun big => ?_⟩
  have fin : ∀ c, mx2 (tSt (fun _ => 0) (A.map (·.1)) p.1.1) (tSt (fun _ => 0) (A.map (·.1)) p.1.2) = tSt (fun _ => 0) (A.map (·.1)) c → ∃ q ∈ tz es, q.2 = p.2 - 1 := fun c e => by
    rcases st c with z | ⟨q, hq, z⟩
    · omega
    · refine ⟨q, ?_, by omega⟩
      rw [hAB]
      exact List.mem_append_left _ hq
  rcases h.2.2 with e | e
  · exact fin _ e
  · exact fin _ e
/-- each number up to a turn is a turn -/
theorem turn_all {es : List (Int × Int)} : ∀ (m : Nat) {p : PT}, p ∈ tz es → ∀ {t : Int}, 1 ≤ t → p.2 = t + m → ∃ q ∈ tz es, q.2 = t
  | 0, p, hp, t, _, e => ⟨p, hp, by omega⟩
  | m + 1, p, hp, t, h1, e => by
    obtain ⟨q, hq, e2⟩ := (turn_below hp).2 (by omega)
    exact turn_all m hq h1 (by omega)
end Un

set_option maxHeartbeats 1000000
namespace Un
/-! ### rounds of a function on the cells: the mathematics -/
def it (f : Int → Int) : Nat → Int → Int
  | 0, c => c
  | j + 1, c => f (it f j c)
theorem it_add (f : Int → Int) : ∀ (i j : Nat) (c : Int), it f (i + j) c = it f i (it f j c)
  | 0, j, c => by rw [Nat.zero_add] <;> rfl
  | i + 1, j, c => by
    rw [show i + 1 + j = (i + j) + 1 by omega]
    show f (it f (i + j) c) = f (it f i (it f j c))
    rw [it_add f i j c]
/-- f moves the cells 1 .. n among each other -/
structure Pm (n : Int) (f : Int → Int) : Prop where
  rg : ∀ c, 1 ≤ c → c ≤ n → 1 ≤ f c ∧ f c ≤ n
  inj : ∀ c d, 1 ≤ c → c ≤ n → 1 ≤ d → d ≤ n → f c = f d → c = d
theorem Pm.it {n : Int} {f : Int → Int} (h : Pm n f) : ∀ (j : Nat) {c : Int}, 1 ≤ c → c ≤ n → 1 ≤ it f j c ∧ it f j c ≤ n
  | 0, c, c1, c2 => ⟨c1, c2⟩
  | j + 1, c, c1, c2 => by
    obtain ⟨a, b⟩ := h.it j c1 c2
    exact h.rg _ a b
theorem Pm.it_inj {n : Int} {f : Int → Int} (h : Pm n f) : ∀ (j : Nat) {c d : Int}, 1 ≤ c → c ≤ n → 1 ≤ d → d ≤ n → Un.it f j c = Un.it f j d → c = d
  | 0, c, d, _, _, _, _, e => e
  | j + 1, c, d, c1, c2, d1, d2, e => by
    obtain ⟨a1, a2⟩ := h.it j c1 c2
    obtain ⟨b1, b2⟩ := h.it j d1 d2
    exact h.it_inj j c1 c2 d1 d2 (h.inj _ _ a1 a2 b1 b2 e)
/-- a way from a by the cells of l to b -/
def Lnk (f : Int → Int) : Int → List Int → Int → Prop
  | a, [], b => f a = b
  | a, x :: l, b => f a = x ∧ Lnk f x l b
theorem lnk_app {f : Int → Int} : ∀ {l : List Int} {a x : Int} {m : List Int} {b : Int}, Lnk f a (l ++ x :: m) b ↔ Lnk f a l x ∧ Lnk f x m b
  | [], a, x, m, b => Iff.rfl
  | y :: l, a, x, m, b => by
    show (f a = y ∧ Lnk f y (l ++ x :: m) b) ↔ (f a = y ∧ Lnk f y l x) ∧ _
    rw [lnk_app]
    exact ⟨fun ⟨h1, h2, h3⟩ => ⟨⟨h1, h2⟩, h3⟩, fun ⟨⟨h1, h2⟩, h3⟩ => ⟨h1, h2, h3⟩⟩
theorem lnk_rot {f : Int → Int} {a x : Int} {l m : List Int} (h : Lnk f a (l ++ x :: m) a) : Lnk f x (m ++ a :: l) x := by
  obtain ⟨h1, h2⟩ := lnk_app.mp h
  exact lnk_app.mpr ⟨h2, h1⟩
/-- each cell of a closed way is come to -/
theorem lnk_it {f : Int → Int} : ∀ {l : List Int} {a b : Int}, Lnk f a l b → (∀ x ∈ l, ∃ j, it f j a = x) ∧ ∃ j, it f (j + 1) a = b
  | [], a, b, h => ⟨fun x hx => (List.not_mem_nil hx).elim, 0, h⟩
  | y :: l, a, b, h => by
    obtain ⟨h1, h2⟩ := h
    obtain ⟨k1, j, k2⟩ := lnk_it h2
    have e : ∀ j, it f j y = it f (j + 1) a := fun j => by
      rw [it_add f j 1 a]
      show _ = it f j (f a)
      rw [h1]
    refine ⟨fun x hx => ?_, j + 1, by rw [← e]; exact k2⟩
    rcases List.mem_cons.mp hx with rfl | hx
    · exact ⟨1, h1⟩
    · obtain ⟨i, hi⟩ := k1 x hx
      exact ⟨i + 1, by rw [← e]; exact hi⟩
/-- and no other -/
theorem lnk_stay {f : Int → Int} : ∀ {l : List Int} {a b : Int} {S : List Int}, Lnk f a l b → (∀ x ∈ l, x ∈ S) → b ∈ S → ∀ x ∈ a :: l, f x ∈ S
  | [], a, b, S, h, _, hb, x, hx => by
    rw [List.mem_singleton.mp hx, show f a = b from h]
    exact hb
  | y :: l, a, b, S, h, hl, hb, x, hx => by
    obtain ⟨h1, h2⟩ := h
    rcases List.mem_cons.mp hx with rfl | hx
    · rw [h1]
      exact hl y List.mem_cons_self
    · exact lnk_stay h2 (fun z hz => hl z (List.mem_cons_of_mem _ hz)) hb x hx
/-- a closed row -/
def Clo (f : Int → Int) (r : List Int) : Prop := ∃ a l, r = a :: l ∧ Lnk f a l a
theorem Clo.rot {f : Int → Int} {r : List Int} {x : Int} (h : Clo f r) (hx : x ∈ r) : ∃ l, Lnk f x l x ∧ (x :: l).Perm r := by
  obtain ⟨a, l, rfl, hc⟩ := h
  rcases List.mem_cons.mp hx with rfl | hx
  · exact ⟨l, hc, List.Perm.refl _⟩
  · obtain ⟨p, q, rfl⟩ := List.append_of_mem hx
    refine ⟨q ++ a :: p, lnk_rot hc, ?_⟩
    have : (x :: (q ++ a :: p)).Perm ((a :: p) ++ x :: q) := by
      have e1 : x :: (q ++ a :: p) = (x :: q) ++ (a :: p) := rfl
      rw [e1]
      exact List.perm_append_comm
    exact this
theorem Clo.mem {f : Int → Int} {r : List Int} {x y : Int} (h : Clo f r) (hx : x ∈ r) : y ∈ r ↔ ∃ j, it f j x = y := by
  obtain ⟨l, hl, pm⟩ := h.rot hx
  obtain ⟨k1, k2⟩ := lnk_it hl
  have st := lnk_stay (S := x :: l) hl (fun z hz => List.mem_cons_of_mem _ hz) List.mem_cons_self
  rw [← pm.mem_iff]
  constructor
  · intro hy
    rcases List.mem_cons.mp hy with rfl | hy
    · exact ⟨0, rfl⟩
    · exact k1 y hy
  · rintro ⟨j, rfl⟩
    induction j with
    | zero => exact List.mem_cons_self
    | succ j ih => exact st _ ih
/-- rows that take in all cells, each once -/
structure RSys (n : Int) (f : Int → Int) (R : List (List Int)) : Prop where
  clo : ∀ r ∈ R, Clo f r
  all : R.flatten.Perm (cs n)
theorem cs_nodup (n : Int) : (cs n).Nodup := (cs_asc n).imp fun h => Int.ne_of_lt h
theorem RSys.nodup {n : Int} {f : Int → Int} {R : List (List Int)} (h : RSys n f R) : R.flatten.Nodup := h.all.symm.nodup (cs_nodup n)
theorem RSys.perm {n : Int} {f : Int → Int} {R R' : List (List Int)} (h : RSys n f R) (p : R.Perm R') : RSys n f R' :=
  ⟨fun r hr => h.clo r (p.mem_iff.mpr hr), p.symm.flatten.trans h.all⟩
theorem RSys.of {n : Int} {f : Int → Int} {R : List (List Int)} (h : RSys n f R) {c : Int} (c1 : 1 ≤ c) (c2 : c ≤ n) : ∃ r ∈ R, c ∈ r := by
  obtain ⟨r, h1, h2⟩ := List.mem_flatten.mp (h.all.mem_iff.mpr (mem_cs.mpr ⟨c1, c2⟩))
  exact ⟨r, h1, h2⟩
theorem flat_apart {R : List (List Int)} (h : R.flatten.Nodup) {r s : List Int} {c : Int} (hr : r ∈ R) (hs : s ∈ R) (cr : c ∈ r) (cs' : c ∈ s) : r = s := by
  induction R with
  | nil => exact (List.not_mem_nil hr).elim
  | cons t R ih =>
    rw [List.flatten_cons] at h
    obtain ⟨h1, h2, h3⟩ := List.nodup_append.mp h
    rcases List.mem_cons.mp hr with rfl | hr'
    · rcases List.mem_cons.mp hs with rfl | hs'
      · rfl
      · exact absurd rfl (h3 c cr c (List.mem_flatten.mpr ⟨s, hs', cs'⟩))
    · rcases List.mem_cons.mp hs with rfl | hs'
      · exact absurd rfl (h3 c cs' c (List.mem_flatten.mpr ⟨r, hr', cr⟩))
      · exact ih h2 hr' hs'
/-- the least cell of its round -/
def Lst (f : Int → Int) (k : Int) : Prop := ∀ j, k ≤ it f j k
/-- how many rounds there are: the cells that are the least of theirs -/
noncomputable def cyc (n : Int) (f : Int → Int) : Nat := by
  classical
  exact ((cs n).filter fun k => decide (Lst f k)).length
theorem one_least {f : Int → Int} {r : List Int} (h : Clo f r) (nd : r.Nodup) : (by classical exact (r.filter fun k => decide (Lst f k)).length) = 1 := by
  classical
  obtain ⟨a, l, rfl, hc⟩ := h
  have hC : Clo f (a :: l) := ⟨a, l, rfl, hc⟩
  -- the least one
  have ex : ∀ (a : Int) (l : List Int), ∃ m ∈ a :: l, ∀ x ∈ a :: l, m ≤ x := by
    intro a l
    induction l generalizing a with
    | nil => exact ⟨a, List.mem_cons_self, fun x hx => by rw [List.mem_singleton.mp hx]; exact Int.le_refl _⟩
    | cons b l ih =>
      obtain ⟨m, h1, h2⟩ := ih b
      by_cases c : a ≤ m
      · exact ⟨a, List.mem_cons_self, fun x hx => by
          rcases List.mem_cons.mp hx with rfl | hx
          · exact Int.le_refl _
          · exact Int.le_trans c (h2 x hx)⟩
      · exact ⟨m, List.mem_cons_of_mem _ h1, fun x hx => by
          rcases List.mem_cons.mp hx with rfl | hx
          · omega
          · exact h2 x hx⟩
  obtain ⟨m, hm, hmin⟩ := ex a l
  have key : ∀ k ∈ a :: l, (Lst f k ↔ k = m) := fun k hk => by
    constructor
    · intro hL
      obtain ⟨j, e⟩ := (hC.mem hk).mp hm
      have h1 := hL j
      rw [e] at h1
      have h2 := hmin k hk
      omega
    · rintro rfl j
      exact hmin _ ((hC.mem hk).mpr ⟨j, rfl⟩)
  have e : ((a :: l).filter fun k => decide (Lst f k)) = (a :: l).filter fun k => decide (k = m) := List.filter_congr fun k hk => by
    rw [decide_eq_decide]
    exact key k hk
  rw [e]
  have : ∀ (r : List Int), r.Nodup → m ∈ r → (r.filter fun k => decide (k = m)).length = 1 := by
    intro r
    induction r with
    | nil => intro _ h; exact (List.not_mem_nil h).elim
    | cons b r ih =>
      intro nd hm
      obtain ⟨n1, n2⟩ := List.nodup_cons.mp nd
      rw [List.filter_cons]
      by_cases c : b = m
      · rw [if_pos (decide_eq_true c)]
        have z : (r.filter fun k => decide (k = m)) = [] := List.filter_eq_nil_iff.mpr fun k hk => by
          rw [decide_eq_true_iff]
          rintro rfl
          exact n1 (c ▸ hk)
        rw [z] <;> rfl
      · rw [if_neg (by rw [decide_eq_true_iff]; exact c)]
        exact ih n2 ((List.mem_cons.mp hm).resolve_left fun z => c z.symm)
  exact this _ nd hm
theorem RSys.cyc {n : Int} {f : Int → Int} {R : List (List Int)} (h : RSys n f R) : cyc n f = R.length := by
  classical
  have nd := h.nodup
  unfold Un.cyc
  rw [← (h.all.filter _).length_eq]
  have key : ∀ R : List (List Int), R.flatten.Nodup → (∀ r ∈ R, Clo f r) → (R.flatten.filter fun k => decide (Lst f k)).length = R.length := by
    intro R
    induction R with
    | nil => intro _ _; rfl
    | cons r R ih =>
      intro nd hc
      rw [List.flatten_cons] at nd ⊢
      obtain ⟨h1, h2, _⟩ := List.nodup_append.mp nd
      rw [List.filter_append, List.length_append, ih h2 fun s hs => hc s (List.mem_cons_of_mem _ hs), List.length_cons]
      have := one_least (hc r List.mem_cons_self) h1
      omega
  exact key R nd h.clo
/-! ### there are such rows -/
theorem Pm.back {n : Int} {f : Int → Int} (h : Pm n f) {c : Int} (c1 : 1 ≤ c) (c2 : c ≤ n) : ∃ m : Nat, 1 ≤ m ∧ (m : Int) ≤ n ∧ Un.it f m c = c := by
  -- two of the first n + 1 are the same
  have ex : ∃ i j : Nat, i < j ∧ (j : Int) ≤ n ∧ Un.it f i c = Un.it f j c := by
    refine Classical.byContradiction fun no => ?_
    have nd : ((List.range (n.toNat + 1)).map fun j => Un.it f j c).Nodup := by
      refine List.pairwise_map.mpr ((List.pairwise_lt_range (n := n.toNat + 1)).imp_of_mem fun {i j} hi hj hij => ?_)
      intro e
      have := List.mem_range.mp hj
      exact no ⟨i, j, hij, by omega, e⟩
    have sub : ((List.range (n.toNat + 1)).map fun j => Un.it f j c) ⊆ cs n := fun x hx => by
      obtain ⟨j, _, rfl⟩ := List.mem_map.mp hx
      exact mem_cs.mpr (h.it j c1 c2)
    have := nd.length_le_of_subset sub
    rw [List.length_map, List.length_range, cs_len] at this
    omega
  obtain ⟨i, j, hij, hj, e⟩ := ex
  refine ⟨j - i, by omega, by omega, ?_⟩
  have : Un.it f i (Un.it f (j - i) c) = Un.it f i c := by
    rw [← it_add, show i + (j - i) = j by omega, e]
  obtain ⟨a, b⟩ := h.it (j - i) c1 c2
  exact h.it_inj i a b c1 c2 this
theorem lnk_run (f : Int → Int) : ∀ (k : Nat) (a : Int), Lnk f a ((List.range k).map fun j => it f (j + 1) a) (it f (k + 1) a)
  | 0, a => rfl
  | k + 1, a => by
    rw [List.range_succ, List.map_append, List.map_cons, List.map_nil]
    exact lnk_app.mpr ⟨lnk_run f k a, rfl⟩
/-- the round of a cell: m cells -/
def rnd (f : Int → Int) (m : Nat) (c : Int) : List Int := (List.range m).map fun j => it f j c
theorem rnd_clo {f : Int → Int} {m : Nat} {c : Int} (hm : 1 ≤ m) (h : it f m c = c) : Clo f (rnd f m c) := by
  obtain ⟨k, rfl⟩ : ∃ k, m = k + 1 := ⟨m - 1, by omega⟩
  refine ⟨c, (List.range k).map fun j => it f (j + 1) c, ?_, ?_⟩
  · unfold rnd
    rw [List.range_succ_eq_map, List.map_cons, List.map_map] <;> rfl
  · have := lnk_run f k c
    rw [h] at this
    exact this
theorem Pm.round {n : Int} {f : Int → Int} (h : Pm n f) {c : Int} (c1 : 1 ≤ c) (c2 : c ≤ n) : ∃ r, Clo f r ∧ r.Nodup ∧ c ∈ r ∧ ∀ x ∈ r, 1 ≤ x ∧ x ≤ n := by
  classical
  -- the least such number
  have ex : ∃ m : Nat, 1 ≤ m ∧ Un.it f m c = c := by
    obtain ⟨m, a, _, b⟩ := h.back c1 c2
    exact ⟨m, a, b⟩
  have : ∃ m : Nat, (1 ≤ m ∧ Un.it f m c = c) ∧ ∀ k, k < m → ¬ (1 ≤ k ∧ Un.it f k c = c) := by
    obtain ⟨m, h1, h2⟩ := ex
    induction m using Nat.strongRecOn with
    | ind m ih =>
      by_cases q : ∃ k, k < m ∧ 1 ≤ k ∧ Un.it f k c = c
      · obtain ⟨k, k1, k2, k3⟩ := q
        exact ih k k1 k2 k3
      · exact ⟨m, ⟨h1, h2⟩, fun k hk z => q ⟨k, hk, z.1, z.2⟩⟩
  obtain ⟨m, ⟨h1, h2⟩, hmin⟩ := this
  refine ⟨rnd f m c, rnd_clo h1 h2, ?_, ?_, ?_⟩
  · unfold rnd
    refine List.pairwise_map.mpr ((List.pairwise_lt_range (n := m)).imp_of_mem fun {i j} hi hj hij => ?_)
    intro e
    have hj := List.mem_range.mp hj
    refine hmin (j - i) (by omega) ⟨by omega, ?_⟩
    have : Un.it f i (Un.it f (j - i) c) = Un.it f i c := by
      rw [← it_add, show i + (j - i) = j by omega, e]
    obtain ⟨a, b⟩ := h.it (j - i) c1 c2
    exact h.it_inj i a b c1 c2 this
  · exact List.mem_map.mpr ⟨0, List.mem_range.mpr (by omega), rfl⟩
  · intro x hx
    obtain ⟨j, _, rfl⟩ := List.mem_map.mp hx
    exact h.it j c1 c2
theorem Pm.sys {n : Int} {f : Int → Int} (h : Pm n f) : ∃ R, RSys n f R := by
  classical
  -- rows with different cells, as many cells as may be
  have key : ∀ (k : Nat) (R : List (List Int)), (∀ r ∈ R, Clo f r) → R.flatten.Nodup → (∀ x ∈ R.flatten, 1 ≤ x ∧ x ≤ n) → n.toNat - R.flatten.length ≤ k → ∃ R, RSys n f R := by
    intro k
    induction k with
    | zero =>
      intro R hc nd hr hk
      refine ⟨R, hc, (List.perm_ext_iff_of_nodup nd (cs_nodup n)).mpr fun a => ⟨fun ha => mem_cs.mpr (hr a ha), fun ha => ?_⟩⟩
      refine Classical.byContradiction fun no => ?_
      have sub : (a :: R.flatten) ⊆ cs n := fun x hx => by
        rcases List.mem_cons.mp hx with rfl | hx
        · exact ha
        · exact mem_cs.mpr (hr x hx)
      have := (List.nodup_cons.mpr ⟨no, nd⟩).length_le_of_subset sub
      rw [List.length_cons, cs_len] at this
      omega
    | succ k ih =>
      intro R hc nd hr hk
      by_cases q : ∃ c, 1 ≤ c ∧ c ≤ n ∧ c ∉ R.flatten
      · obtain ⟨c, c1, c2, hn⟩ := q
        obtain ⟨r, r1, r2, r3, r4⟩ := h.round c1 c2
        have apart : ∀ x ∈ r, x ∉ R.flatten := fun x hx hR => by
          obtain ⟨s, hs, hxs⟩ := List.mem_flatten.mp hR
          obtain ⟨j, e⟩ := (r1.mem hx).mp r3
          exact hn (List.mem_flatten.mpr ⟨s, hs, ((hc s hs).mem hxs).mpr ⟨j, e⟩⟩)
        refine ih (r :: R) (fun s hs => ?_) ?_ (fun x hx => ?_) ?_
        · rcases List.mem_cons.mp hs with rfl | hs
          · exact r1
          · exact hc s hs
        · rw [List.flatten_cons]
          exact List.nodup_append.mpr ⟨r2, nd, fun a ha b hb e => apart a ha (e ▸ hb)⟩
        · rw [List.flatten_cons] at hx
          rcases List.mem_append.mp hx with hx | hx
          · exact r4 x hx
          · exact hr x hx
        · rw [List.flatten_cons, List.length_append]
          have : 0 < r.length := List.length_pos_of_mem r3
          omega
      · have sub : cs n ⊆ R.flatten := fun x hx => by
          obtain ⟨x1, x2⟩ := mem_cs.mp hx
          exact Classical.byContradiction fun z => q ⟨x, x1, x2, z⟩
        exact ⟨R, hc, (List.perm_ext_iff_of_nodup nd (cs_nodup n)).mpr fun a => ⟨fun ha => mem_cs.mpr (hr a ha), fun ha => sub ha⟩⟩
  exact key n.toNat [] (fun r hr => (List.not_mem_nil hr).elim) List.nodup_nil (fun x hx => (List.not_mem_nil hx).elim) (Nat.sub_le _ _)
/-! ### one more exchange -/
/-- the things that end in u and v change places -/
def swF (u v : Int) (f : Int → Int) : Int → Int := fun c => sw u v (f c)
theorem sw_ne {u v x : Int} (h1 : x ≠ u) (h2 : x ≠ v) : sw u v x = x := by
  unfold sw
  rw [if_neg h2, if_neg h1]
theorem sw_u {u v : Int} (h : u ≠ v) : sw u v u = v := by
  unfold sw
  rw [if_neg h, if_pos rfl]
theorem sw_v {u v : Int} : sw u v v = u := by
  unfold sw
  rw [if_pos rfl]
theorem Pm.sw {n : Int} {f : Int → Int} (h : Pm n f) {u v : Int} (u1 : 1 ≤ u) (u2 : u ≤ n) (v1 : 1 ≤ v) (v2 : v ≤ n) : Pm n (swF u v f) :=
  ⟨fun c c1 c2 => by
    obtain ⟨a, b⟩ := h.rg c c1 c2
    exact sw_rg u1 u2 v1 v2 a b, fun c d c1 c2 d1 d2 e => h.inj c d c1 c2 d1 d2 (sw_inj e)⟩
theorem lnk_same {f g : Int → Int} : ∀ {l : List Int} {a b : Int}, Lnk f a l b → (∀ x ∈ a :: l, g x = f x) → Lnk g a l b
  | [], a, b, h, e => by
    show g a = b
    rw [e a List.mem_cons_self]
    exact h
  | y :: l, a, b, h, e => by
    obtain ⟨h1, h2⟩ := h
    exact ⟨by rw [e a List.mem_cons_self]; exact h1, lnk_same h2 fun x hx => e x (List.mem_cons_of_mem _ hx)⟩
/-- only the last step of a way lands in u or v -/
theorem lnk_sw {u v : Int} {f : Int → Int} : ∀ {l : List Int} {a b : Int}, Lnk f a l b → (∀ x ∈ l, x ≠ u ∧ x ≠ v) → Lnk (swF u v f) a l (sw u v b)
  | [], a, b, h, _ => by
    show sw u v (f a) = sw u v b
    rw [show f a = b from h]
  | y :: l, a, b, h, e => by
    obtain ⟨h1, h2⟩ := h
    obtain ⟨e1, e2⟩ := e y List.mem_cons_self
    refine ⟨?_, lnk_sw h2 fun x hx => e x (List.mem_cons_of_mem _ hx)⟩
    show sw u v (f a) = y
    rw [h1, sw_ne e1 e2]
theorem clo_sw {u v : Int} {f : Int → Int} {r : List Int} (h : Clo f r) (hu : u ∉ r) (hv : v ∉ r) : Clo (swF u v f) r := by
  obtain ⟨a, l, rfl, hc⟩ := h
  refine ⟨a, l, rfl, ?_⟩
  have z := lnk_sw (u := u) (v := v) hc fun x hx => ⟨fun e => hu (e ▸ List.mem_cons_of_mem _ hx), fun e => hv (e ▸ List.mem_cons_of_mem _ hx)⟩
  have na : a ≠ u := fun e => hu (by rw [← e]; exact List.mem_cons_self)
  have nb : a ≠ v := fun e => hv (by rw [← e]; exact List.mem_cons_self)
  rw [sw_ne na nb] at z
  exact z
/-- two rounds become one -/
theorem RSys.join {n : Int} {f : Int → Int} {R : List (List Int)} {u v : Int} {l m : List Int} (h : RSys n f ((u :: l) :: (v :: m) :: R)) (h1 : Lnk f u l u) (h2 : Lnk f v m v) : RSys n (swF u v f) ((u :: (l ++ v :: m)) :: R) := by
  have nd := h.nodup
  rw [List.flatten_cons, List.flatten_cons] at nd
  obtain ⟨n1, n2, n3⟩ := List.nodup_append.mp nd
  obtain ⟨n4, n5, n6⟩ := List.nodup_append.mp n2
  have uv : u ≠ v := fun e => n3 u List.mem_cons_self v (List.mem_append_left _ List.mem_cons_self) e
  refine ⟨fun r hr => ?_, ?_⟩
  · rcases List.mem_cons.mp hr with rfl | hr
    · refine ⟨u, l ++ v :: m, rfl, lnk_app.mpr ⟨?_, ?_⟩⟩
      · have z := lnk_sw (u := u) (v := v) h1 fun x hx => ⟨fun e => (List.nodup_cons.mp n1).1 (e ▸ hx), fun e => n3 x (List.mem_cons_of_mem _ hx) v (List.mem_append_left _ List.mem_cons_self) e⟩
        rw [sw_u uv] at z
        exact z
      · have z := lnk_sw (u := u) (v := v) h2 fun x hx => ⟨fun e => n3 u List.mem_cons_self x (List.mem_append_left _ (List.mem_cons_of_mem _ hx)) e.symm, fun e => (List.nodup_cons.mp n4).1 (e ▸ hx)⟩
        rw [sw_v] at z
        exact z
    · refine clo_sw (h.clo r (List.mem_cons_of_mem _ (List.mem_cons_of_mem _ hr))) (fun hu => ?_) fun hv => ?_
      · exact n3 u List.mem_cons_self u (List.mem_append_right _ (List.mem_flatten.mpr ⟨r, hr, hu⟩)) rfl
      · exact n6 v List.mem_cons_self v (List.mem_flatten.mpr ⟨r, hr, hv⟩) rfl
  · refine List.Perm.trans ?_ h.all
    rw [List.flatten_cons, List.flatten_cons, List.flatten_cons]
    show ((u :: (l ++ v :: m)) ++ R.flatten).Perm ((u :: l) ++ ((v :: m) ++ R.flatten))
    simp
/-- one round becomes two -/
theorem RSys.part {n : Int} {f : Int → Int} {R : List (List Int)} {u v : Int} {l m : List Int} (h : RSys n f ((u :: (l ++ v :: m)) :: R)) (h1 : Lnk f u l v) (h2 : Lnk f v m u) : RSys n (swF u v f) ((u :: l) :: (v :: m) :: R) := by
  have nd := h.nodup
  rw [List.flatten_cons] at nd
  obtain ⟨n1, n2, n3⟩ := List.nodup_append.mp nd
  obtain ⟨k1, k2⟩ := List.nodup_cons.mp n1
  obtain ⟨k3, k4, k5⟩ := List.nodup_append.mp k2
  have uv : u ≠ v := fun e => k1 (e ▸ List.mem_append_right _ List.mem_cons_self)
  refine ⟨fun r hr => ?_, ?_⟩
  · rcases List.mem_cons.mp hr with rfl | hr
    · have z := lnk_sw (u := u) (v := v) h1 fun x hx => ⟨fun e => k1 (e ▸ List.mem_append_left _ hx), fun e => k5 x hx v List.mem_cons_self e⟩
      rw [sw_v] at z
      exact ⟨u, l, rfl, z⟩
    · rcases List.mem_cons.mp hr with rfl | hr
      · have z := lnk_sw (u := u) (v := v) h2 fun x hx => ⟨fun e => k1 (e ▸ List.mem_append_right _ (List.mem_cons_of_mem _ hx)), fun e => (List.nodup_cons.mp k4).1 (e ▸ hx)⟩
        rw [sw_u uv] at z
        exact ⟨v, m, rfl, z⟩
      · refine clo_sw (h.clo r (List.mem_cons_of_mem _ hr)) (fun hu => ?_) fun hv => ?_
        · exact n3 u List.mem_cons_self u (List.mem_flatten.mpr ⟨r, hr, hu⟩) rfl
        · exact n3 v (List.mem_cons_of_mem _ (List.mem_append_right _ List.mem_cons_self)) v (List.mem_flatten.mpr ⟨r, hr, hv⟩) rfl
  · refine List.Perm.trans ?_ h.all
    rw [List.flatten_cons, List.flatten_cons, List.flatten_cons]
    show ((u :: l) ++ ((v :: m) ++ R.flatten)).Perm ((u :: (l ++ v :: m)) ++ R.flatten)
    simp
/-- whether two cells are in one round -/
def OneR (f : Int → Int) (u v : Int) : Prop := ∃ j, it f j u = v
/-- the rows, with those of u and v first -/
theorem RSys.front {n : Int} {f : Int → Int} {R : List (List Int)} (h : RSys n f R) {u : Int} (u1 : 1 ≤ u) (u2 : u ≤ n) : ∃ l R', Lnk f u l u ∧ RSys n f ((u :: l) :: R') ∧ R'.length + 1 = R.length ∧ ∃ r, R.Perm (r :: R') ∧ (u :: l).Perm r := by
  obtain ⟨r, hr, hu⟩ := h.of u1 u2
  obtain ⟨A, B, rfl⟩ := List.append_of_mem hr
  obtain ⟨l, h1, h2⟩ := (h.clo r hr).rot hu
  have pm : (A ++ r :: B).Perm (r :: (A ++ B)) := List.perm_middle
  refine ⟨l, A ++ B, h1, ⟨fun s hs => ?_, ?_⟩, by simp; omega, r, pm, h2⟩
  · rcases List.mem_cons.mp hs with rfl | hs
    · exact ⟨u, l, rfl, h1⟩
    · exact h.clo s (pm.mem_iff.mpr (List.mem_cons_of_mem _ hs))
  · refine List.Perm.trans ?_ (pm.symm.flatten.trans h.all)
    rw [List.flatten_cons, List.flatten_cons]
    exact h2.append_right _
theorem cyc_sw {n : Int} {f : Int → Int} (h : Pm n f) {u v : Int} (u1 : 1 ≤ u) (u2 : u ≤ n) (v1 : 1 ≤ v) (v2 : v ≤ n) (uv : u ≠ v) :
    (OneR f u v → cyc n (swF u v f) = cyc n f + 1) ∧ (¬ OneR f u v → cyc n (swF u v f) + 1 = cyc n f) := by
  obtain ⟨R, hR⟩ := h.sys
  obtain ⟨l, R', hl, hR', hlen, _⟩ := hR.front u1 u2
  have hC : Clo f (u :: l) := ⟨u, l, rfl, hl⟩
  constructor
  · intro o
    have hv : v ∈ u :: l := (hC.mem List.mem_cons_self).mpr o
    have hv2 : v ∈ l := (List.mem_cons.mp hv).resolve_left uv.symm
    obtain ⟨p, q, rfl⟩ := List.append_of_mem hv2
    obtain ⟨k1, k2⟩ := lnk_app.mp hl
    have z := hR'.part k1 k2
    rw [z.cyc, hR'.cyc] <;> simp
  · intro o
    have hv : v ∉ u :: l := fun z => o ((hC.mem List.mem_cons_self).mp z)
    obtain ⟨r, hr, hvr⟩ := hR'.of v1 v2
    have hr2 : r ∈ R' := (List.mem_cons.mp hr).resolve_left fun e => hv (e ▸ hvr)
    obtain ⟨A, B, rfl⟩ := List.append_of_mem hr2
    obtain ⟨m, h1, h2⟩ := (hR'.clo r hr).rot hvr
    have hR2 : RSys n f ((u :: l) :: (v :: m) :: (A ++ B)) := by
      refine ⟨fun s hs => ?_, ?_⟩
      · rcases List.mem_cons.mp hs with rfl | hs
        · exact hC
        · rcases List.mem_cons.mp hs with rfl | hs
          · exact ⟨v, m, rfl, h1⟩
          · refine hR'.clo s (List.mem_cons_of_mem _ ?_)
            rcases List.mem_append.mp hs with hs | hs
            · exact List.mem_append_left _ hs
            · exact List.mem_append_right _ (List.mem_cons_of_mem _ hs)
      · refine List.Perm.trans ?_ hR'.all
        rw [List.flatten_cons, List.flatten_cons, List.flatten_cons, List.flatten_append, List.flatten_append, List.flatten_cons]
        refine List.Perm.append_left _ ?_
        refine (h2.append_right _).trans ?_
        have e1 : r ++ (A.flatten ++ B.flatten) = (r ++ A.flatten) ++ B.flatten := by rw [List.append_assoc]
        have e2 : A.flatten ++ (r ++ B.flatten) = (A.flatten ++ r) ++ B.flatten := by rw [List.append_assoc]
        rw [e1, e2]
        exact List.perm_append_comm.append_right _
    have z := hR2.join hl h1
    rw [z.cyc, hR2.cyc] <;> simp
theorem cyc_id {n : Int} : cyc n (fun c => c) = n.toNat := by
  have h : RSys n (fun c => c) ((cs n).map fun c => [c]) := by
    refine ⟨fun r hr => ?_, ?_⟩
    · obtain ⟨c, _, rfl⟩ := List.mem_map.mp hr
      exact ⟨c, [], rfl, rfl⟩
    · have : ((cs n).map fun c => [c]).flatten = cs n := by
        generalize cs n = l
        induction l with
        | nil => rfl
        | cons a l ih => rw [List.map_cons, List.flatten_cons, ih] <;> rfl
      rw [this]
  rw [h.cyc, List.length_map, cs_len]
end Un

set_option maxRecDepth 100000
set_option maxHeartbeats 8000000
namespace Un
open PySem PySem.Spec PyProof.Rows L2
/-! ### the law's pieces -/
abbrev lp_st (n : Int) (W : List PyData) (mk : List Int) (ρ : RhoS) : Prop := ∃ j3 j4 j5 j6 j7 j8 j9 : En, ρ = [.fz (.int n, true), .fz (.list W, false), .ow (mk.map PyData.int) true, j3, j4, j5, j6, j7, j8, j9] ∧ (mk.length : Int) = n + 1
theorem lp_mk {n : Int} {W A : List PyData} {mk : List Int} {j3 j4 j5 j6 j7 j8 j9 : En} (hA : A = mk.map PyData.int) (h1 : (mk.length : Int) = n + 1) :
    lp_st n W mk [.fz (.int n, true), .fz (.list W, false), .ow A true, j3, j4, j5, j6, j7, j8, j9] := ⟨j3, j4, j5, j6, j7, j8, j9, by rw [hA], h1⟩
theorem mStep_len (mk : List Int) (e : Int × Int) : (mStep mk e).length = mk.length := by
  unfold mStep
  rw [List.length_map]
theorem lp_turn {n : Int} (n1 : 1 ≤ n) (n16 : n ≤ 16) {W : List PyData} {mk : List Int} {e : Int × Int} (i1 : 1 ≤ e.1) (i2 : e.1 < e.2) (i3 : e.2 ≤ n) {ρ : RhoS} (h : lp_st n W mk ρ) :
    TurnOk (.tp [3, 4]) a_l_pieces_1 (dP e, nol (dP e)) ρ (lp_st n W (mStep mk e)) := by
  obtain ⟨j3, j4, j5, j6, j7, j8, j9, rfl, h1⟩ := h
  have g1 := atI_int (ns := mk) (c := e.1) (by omega) (by omega)
  have g2 := atI_int (ns := mk) (c := e.2) (by omega) (by omega)
  have l1 : mk.length ≤ 100000 := by omega
  unfold a_l_pieces_1
  simp only [execs_nil, execs_one, execs_cons, nxt_nx, nxt_rt, nxt_br, nxt_ct, exec_asg, exec_ret, exec_retN, exec_ifs, exec_for, exec_whl, exec_brk, exec_cnt, exec_pas, exec_app, exec_par, exec_aug, ev_var, getR_view, vwAt_fz, vwAt_ow, frz_go, frzA_nil, frzA_any, frAt_fz, frAt_no, frAt_ow, ev_int, ev_bool, ev_none, ev_dic0, ev_str, ev_bin, ev_un, boolK_t, boolK_f, boolK_b, ev_and, ev_or, notK_b, ev_not, ev_ife, ev_chn, ev_tup, ev_lst, ev_sl, ev_rev, ev_cb, lrK_i, ev_lrg1, ev_lrg2, ev_call, ev_kcall, ev_lc, evs_nil, evs_cons, evP_no, intK_i, evP_at, evQ_no, evQ_at, tstK_b, evT_val, evT_and, evT_or, evT_not, fl_t, fl_f, fl_i, fl_b, fl_n, fl_s, fl_l, fl_u, pb_mk, asg_i, asg_b, asg_s, asg_n, asg_l, asg_o, asg_u, asg_tp, setTs_nil, setTs_cons, bindTs_nil, bindTs_cons, bindS_nm, bindS_tp, bindT_nm, bindT_tp, app_i, app_b, app_l, app_u, appP_go, appE_ow, add_i, add_l, sub_i, mul_i, mul_lb, mul_tb, mul_ib, mod_i, fdiv_i, eq_i, ne_i, lt_i, le_i, gt_i, ge_i, in_u, notin_u, isN_d, notN_d, ix_l, ix_u, neg_i, len_l, len_u, min2_i, max2_i, int_i, int_b, list_l, list_u, tuple_l, tuple_u, abs_i, sum_l, any_l, all_l, src_l, src_u, src_1, src_2, src_e, src_z, isRng, vE, vEs, vP, vQ, vT, List.length_cons, List.length_nil, List.length_map, List.map_cons, List.map_nil, List.cons_append, List.nil_append, List.append_nil, List.replicate, List.getElem?_cons_zero, List.getElem?_cons_succ, List.set_cons_zero, List.set_cons_succ, bnd_s, bnd_n, Bool.and_true, Bool.true_and, Bool.or_true, Bool.true_or, Bool.or_false, Bool.false_or, Bool.and_false, Bool.false_and, Bool.not_true, Bool.not_false, cnd_t, cnd_f, List.all_cons, List.all_nil, nolA, nol, wipeR, tgIn, List.contains_cons, List.contains_nil, Nat.reduceBEq, Nat.reduceAdd, Nat.reduceSub, Nat.reduceLeDiff, decide_true, decide_false, permL, List.filterMap_cons, List.filterMap_nil, okTo_nx, turn_iff, List.map_map, getR_set, view_len, List.length_set, Nat.reduceLT, all_tt, comp_d, all_mp, ev_lzip, lz_l, ev_idx, ev_lc2, vwAt_od, frAt_od, frAt_nil, exec_set2, exec_setS, evS_go, setI_go, setE_ow, isSc_i, isSc_b, isSc_s, isSc_n, isSc_l, isSc_u, dP]
  rw [lcE_all (fun m => (.int (if m = nAt mk e.2 then nAt mk e.1 else m), true)) mk ?_]
  · simp only [execs_nil, execs_one, execs_cons, nxt_nx, nxt_rt, nxt_br, nxt_ct, exec_asg, exec_ret, exec_retN, exec_ifs, exec_for, exec_whl, exec_brk, exec_cnt, exec_pas, exec_app, exec_par, exec_aug, ev_var, getR_view, vwAt_fz, vwAt_ow, frz_go, frzA_nil, frzA_any, frAt_fz, frAt_no, frAt_ow, ev_int, ev_bool, ev_none, ev_dic0, ev_str, ev_bin, ev_un, boolK_t, boolK_f, boolK_b, ev_and, ev_or, notK_b, ev_not, ev_ife, ev_chn, ev_tup, ev_lst, ev_sl, ev_rev, ev_cb, lrK_i, ev_lrg1, ev_lrg2, ev_call, ev_kcall, ev_lc, evs_nil, evs_cons, evP_no, intK_i, evP_at, evQ_no, evQ_at, tstK_b, evT_val, evT_and, evT_or, evT_not, fl_t, fl_f, fl_i, fl_b, fl_n, fl_s, fl_l, fl_u, pb_mk, asg_i, asg_b, asg_s, asg_n, asg_l, asg_o, asg_u, asg_tp, setTs_nil, setTs_cons, bindTs_nil, bindTs_cons, bindS_nm, bindS_tp, bindT_nm, bindT_tp, app_i, app_b, app_l, app_u, appP_go, appE_ow, add_i, add_l, sub_i, mul_i, mul_lb, mul_tb, mul_ib, mod_i, fdiv_i, eq_i, ne_i, lt_i, le_i, gt_i, ge_i, in_u, notin_u, isN_d, notN_d, ix_l, ix_u, neg_i, len_l, len_u, min2_i, max2_i, int_i, int_b, list_l, list_u, tuple_l, tuple_u, abs_i, sum_l, any_l, all_l, src_l, src_u, src_1, src_2, src_e, src_z, isRng, vE, vEs, vP, vQ, vT, List.length_cons, List.length_nil, List.length_map, List.map_cons, List.map_nil, List.cons_append, List.nil_append, List.append_nil, List.replicate, List.getElem?_cons_zero, List.getElem?_cons_succ, List.set_cons_zero, List.set_cons_succ, bnd_s, bnd_n, Bool.and_true, Bool.true_and, Bool.or_true, Bool.true_or, Bool.or_false, Bool.false_or, Bool.and_false, Bool.false_and, Bool.not_true, Bool.not_false, cnd_t, cnd_f, List.all_cons, List.all_nil, nolA, nol, wipeR, tgIn, List.contains_cons, List.contains_nil, Nat.reduceBEq, Nat.reduceAdd, Nat.reduceSub, Nat.reduceLeDiff, decide_true, decide_false, permL, List.filterMap_cons, List.filterMap_nil, okTo_nx, turn_iff, List.map_map, getR_set, view_len, List.length_set, Nat.reduceLT, all_tt, comp_d, all_mp, ev_lzip, lz_l, ev_idx, ev_lc2, vwAt_od, frAt_od, frAt_nil, exec_set2, exec_setS, evS_go, setI_go, setE_ow, isSc_i, isSc_b, isSc_s, isSc_n, isSc_l, isSc_u, decide_eq_true l1]
    refine lp_mk ?_ ?_
    · unfold mStep
      rw [List.map_map] <;> rfl
    · rw [mStep_len]
      exact h1
  · intro m _
    refine item_ok rfl rfl fun _ => ?_
    simp only [execs_nil, execs_one, execs_cons, nxt_nx, nxt_rt, nxt_br, nxt_ct, exec_asg, exec_ret, exec_retN, exec_ifs, exec_for, exec_whl, exec_brk, exec_cnt, exec_pas, exec_app, exec_par, exec_aug, ev_var, getR_view, vwAt_fz, vwAt_ow, frz_go, frzA_nil, frzA_any, frAt_fz, frAt_no, frAt_ow, ev_int, ev_bool, ev_none, ev_dic0, ev_str, ev_bin, ev_un, boolK_t, boolK_f, boolK_b, ev_and, ev_or, notK_b, ev_not, ev_ife, ev_chn, ev_tup, ev_lst, ev_sl, ev_rev, ev_cb, lrK_i, ev_lrg1, ev_lrg2, ev_call, ev_kcall, ev_lc, evs_nil, evs_cons, evP_no, intK_i, evP_at, evQ_no, evQ_at, tstK_b, evT_val, evT_and, evT_or, evT_not, fl_t, fl_f, fl_i, fl_b, fl_n, fl_s, fl_l, fl_u, pb_mk, asg_i, asg_b, asg_s, asg_n, asg_l, asg_o, asg_u, asg_tp, setTs_nil, setTs_cons, bindTs_nil, bindTs_cons, bindS_nm, bindS_tp, bindT_nm, bindT_tp, app_i, app_b, app_l, app_u, appP_go, appE_ow, add_i, add_l, sub_i, mul_i, mul_lb, mul_tb, mul_ib, mod_i, fdiv_i, eq_i, ne_i, lt_i, le_i, gt_i, ge_i, in_u, notin_u, isN_d, notN_d, ix_l, ix_u, neg_i, len_l, len_u, min2_i, max2_i, int_i, int_b, list_l, list_u, tuple_l, tuple_u, abs_i, sum_l, any_l, all_l, src_l, src_u, src_1, src_2, src_e, src_z, isRng, vE, vEs, vP, vQ, vT, List.length_cons, List.length_nil, List.length_map, List.map_cons, List.map_nil, List.cons_append, List.nil_append, List.append_nil, List.replicate, List.getElem?_cons_zero, List.getElem?_cons_succ, List.set_cons_zero, List.set_cons_succ, bnd_s, bnd_n, Bool.and_true, Bool.true_and, Bool.or_true, Bool.true_or, Bool.or_false, Bool.false_or, Bool.and_false, Bool.false_and, Bool.not_true, Bool.not_false, cnd_t, cnd_f, List.all_cons, List.all_nil, nolA, nol, wipeR, tgIn, List.contains_cons, List.contains_nil, Nat.reduceBEq, Nat.reduceAdd, Nat.reduceSub, Nat.reduceLeDiff, decide_true, decide_false, permL, List.filterMap_cons, List.filterMap_nil, okTo_nx, turn_iff, List.map_map, getR_set, view_len, List.length_set, Nat.reduceLT, all_tt, comp_d, all_mp, ev_lzip, lz_l, ev_idx, ev_lc2, vwAt_od, frAt_od, frAt_nil, exec_set2, exec_setS, evS_go, setI_go, setE_ow, isSc_i, isSc_b, isSc_s, isSc_n, isSc_l, isSc_u, g1, g2]
    by_cases hm : m = nAt mk e.2
    · rw [decide_eq_true hm, if_pos hm] <;> rfl
    · rw [decide_eq_false hm, if_neg hm] <;> rfl
theorem marks_len {n : Int} (hn : 0 ≤ n) (es : List (Int × Int)) : ((marksF n es).length : Int) = n + 1 := by
  unfold marksF
  have key : ∀ (es : List (Int × Int)) (mk : List Int), (es.foldl mStep mk).length = mk.length := by
    intro es
    induction es with
    | nil => intro mk; rfl
    | cons e es ih => intro mk; rw [List.foldl_cons, ih, mStep_len]
  rw [key]
  exact names0_len' hn
abbrev dRows (xss : List (List Int)) : List PyData := xss.map fun xs => .list (xs.map PyData.int)
abbrev lq_st (n : Int) (W : List PyData) (mk : List Int) (xss : List (List Int)) (ρ : RhoS) : Prop := ∃ e2 j3 j4 j6 j7 j8 j9 : En, ρ = [.fz (.int n, true), .fz (.list W, false), e2, j3, j4, .ow (dRows xss) true, j6, j7, j8, j9] ∧ (e2 = .ow (mk.map PyData.int) true ∨ e2 = .fz (.list (mk.map PyData.int), true))
theorem lq_mk {n : Int} {W B : List PyData} {mk : List Int} {xss : List (List Int)} {j3 j4 j6 j7 j8 j9 : En} (hB : B = dRows xss) :
    lq_st n W mk xss [.fz (.int n, true), .fz (.list W, false), .fz (.list (mk.map PyData.int), true), j3, j4, .ow B true, j6, j7, j8, j9] := ⟨_, j3, j4, j6, j7, j8, j9, by rw [hB], .inr rfl⟩
theorem lq_turn {n : Int} (n1 : 1 ≤ n) (n16 : n ≤ 16) {W : List PyData} {mk : List Int} (hm : (mk.length : Int) = n + 1) {xss : List (List Int)} {k : Int} (k1 : 1 ≤ k) (k2 : k ≤ n) (lx : xss.length ≤ 1000) {ρ : RhoS} (h : lq_st n W mk xss ρ) :
    TurnOk (.nm 6) a_l_pieces_2 (.int k, true) ρ (lq_st n W mk (xss ++ lawOne n mk k)) := by
  obtain ⟨e2, j3, j4, j6, j7, j8, j9, rfl, he⟩ := h
  have g1 := atI_int (ns := mk) (c := k) (by omega) (by omega)
  have l1 : ((cs n).filter fun c => decide (nAt mk c = nAt mk k)).length ≤ 100000 := cs_len' n16 _
  have q : -(2 ^ 62) ≤ (1 : Int) ∧ (1 : Int) < 2 ^ 62 ∧ -(2 ^ 62) ≤ n + 1 ∧ n + 1 < 2 ^ 62 := by omega
  rcases he with rfl | rfl
  all_goals
    unfold a_l_pieces_2
    simp only [execs_nil, execs_one, execs_cons, nxt_nx, nxt_rt, nxt_br, nxt_ct, exec_asg, exec_ret, exec_retN, exec_ifs, exec_for, exec_whl, exec_brk, exec_cnt, exec_pas, exec_app, exec_par, exec_aug, ev_var, getR_view, vwAt_fz, vwAt_ow, frz_go, frzA_nil, frzA_any, frAt_fz, frAt_no, frAt_ow, ev_int, ev_bool, ev_none, ev_dic0, ev_str, ev_bin, ev_un, boolK_t, boolK_f, boolK_b, ev_and, ev_or, notK_b, ev_not, ev_ife, ev_chn, ev_tup, ev_lst, ev_sl, ev_rev, ev_cb, lrK_i, ev_lrg1, ev_lrg2, ev_call, ev_kcall, ev_lc, evs_nil, evs_cons, evP_no, intK_i, evP_at, evQ_no, evQ_at, tstK_b, evT_val, evT_and, evT_or, evT_not, fl_t, fl_f, fl_i, fl_b, fl_n, fl_s, fl_l, fl_u, pb_mk, asg_i, asg_b, asg_s, asg_n, asg_l, asg_o, asg_u, asg_tp, setTs_nil, setTs_cons, bindTs_nil, bindTs_cons, bindS_nm, bindS_tp, bindT_nm, bindT_tp, app_i, app_b, app_l, app_u, appP_go, appE_ow, add_i, add_l, sub_i, mul_i, mul_lb, mul_tb, mul_ib, mod_i, fdiv_i, eq_i, ne_i, lt_i, le_i, gt_i, ge_i, in_u, notin_u, isN_d, notN_d, ix_l, ix_u, neg_i, len_l, len_u, min2_i, max2_i, int_i, int_b, list_l, list_u, tuple_l, tuple_u, abs_i, sum_l, any_l, all_l, src_l, src_u, src_1, src_2, src_e, src_z, isRng, vE, vEs, vP, vQ, vT, List.length_cons, List.length_nil, List.length_map, List.map_cons, List.map_nil, List.cons_append, List.nil_append, List.append_nil, List.replicate, List.getElem?_cons_zero, List.getElem?_cons_succ, List.set_cons_zero, List.set_cons_succ, bnd_s, bnd_n, Bool.and_true, Bool.true_and, Bool.or_true, Bool.true_or, Bool.or_false, Bool.false_or, Bool.and_false, Bool.false_and, Bool.not_true, Bool.not_false, cnd_t, cnd_f, List.all_cons, List.all_nil, nolA, nol, wipeR, tgIn, List.contains_cons, List.contains_nil, Nat.reduceBEq, Nat.reduceAdd, Nat.reduceSub, Nat.reduceLeDiff, decide_true, decide_false, permL, List.filterMap_cons, List.filterMap_nil, okTo_nx, turn_iff, List.map_map, getR_set, view_len, List.length_set, Nat.reduceLT, all_tt, comp_d, all_mp, ev_lzip, lz_l, ev_idx, ev_lc2, vwAt_od, frAt_od, frAt_nil, exec_set2, exec_setS, evS_go, setI_go, setE_ow, isSc_i, isSc_b, isSc_s, isSc_n, isSc_l, isSc_u, decide_eq_true q, rngL_cs]
    rw [lcE_map (fun c => decide (nAt mk c = nAt mk k)) (fun c => (.int c, true)) (cs n) ?_]
    · have hp : k ∈ (cs n).filter fun c => decide (nAt mk c = nAt mk k) := List.mem_filter.mpr ⟨mem_cs.mpr ⟨k1, k2⟩, decide_eq_true rfl⟩
      obtain ⟨x, xs, hx⟩ : ∃ x xs, (cs n).filter (fun c => decide (nAt mk c = nAt mk k)) = x :: xs := by
        cases z : (cs n).filter (fun c => decide (nAt mk c = nAt mk k)) with
        | nil =>
          rw [z] at hp
          exact (List.not_mem_nil hp).elim
        | cons x xs => exact ⟨x, xs, rfl⟩
      rw [hx]
      have g0 : atI (PyData.int x :: xs.map fun x => PyData.int x) 0 = some (.int x) := atI_d (j := 0) rfl
      have g3 : atI (PyData.int x :: xs.map PyData.int) 0 = some (.int x) := atI_d (j := 0) rfl
      rw [hx, List.length_cons] at l1
      have l2 : (dRows xss).length ≤ 1000 := by rw [List.length_map]; exact lx
      have l3 : xss.length + 1 ≤ 100000 := by omega
      have l3' : xss.length ≤ 99999 := by omega
      have l1' : xs.length ≤ 99999 := by omega
      have l4 : xss.length + 0 ≤ 100000 := by omega
      unfold lawOne cls
      rw [hx]
      by_cases c : x = k
      · simp only [execs_nil, execs_one, execs_cons, nxt_nx, nxt_rt, nxt_br, nxt_ct, exec_asg, exec_ret, exec_retN, exec_ifs, exec_for, exec_whl, exec_brk, exec_cnt, exec_pas, exec_app, exec_par, exec_aug, ev_var, getR_view, vwAt_fz, vwAt_ow, frz_go, frzA_nil, frzA_any, frAt_fz, frAt_no, frAt_ow, ev_int, ev_bool, ev_none, ev_dic0, ev_str, ev_bin, ev_un, boolK_t, boolK_f, boolK_b, ev_and, ev_or, notK_b, ev_not, ev_ife, ev_chn, ev_tup, ev_lst, ev_sl, ev_rev, ev_cb, lrK_i, ev_lrg1, ev_lrg2, ev_call, ev_kcall, ev_lc, evs_nil, evs_cons, evP_no, intK_i, evP_at, evQ_no, evQ_at, tstK_b, evT_val, evT_and, evT_or, evT_not, fl_t, fl_f, fl_i, fl_b, fl_n, fl_s, fl_l, fl_u, pb_mk, asg_i, asg_b, asg_s, asg_n, asg_l, asg_o, asg_u, asg_tp, setTs_nil, setTs_cons, bindTs_nil, bindTs_cons, bindS_nm, bindS_tp, bindT_nm, bindT_tp, app_i, app_b, app_l, app_u, appP_go, appE_ow, add_i, add_l, sub_i, mul_i, mul_lb, mul_tb, mul_ib, mod_i, fdiv_i, eq_i, ne_i, lt_i, le_i, gt_i, ge_i, in_u, notin_u, isN_d, notN_d, ix_l, ix_u, neg_i, len_l, len_u, min2_i, max2_i, int_i, int_b, list_l, list_u, tuple_l, tuple_u, abs_i, sum_l, any_l, all_l, src_l, src_u, src_1, src_2, src_e, src_z, isRng, vE, vEs, vP, vQ, vT, List.length_cons, List.length_nil, List.length_map, List.map_cons, List.map_nil, List.cons_append, List.nil_append, List.append_nil, List.replicate, List.getElem?_cons_zero, List.getElem?_cons_succ, List.set_cons_zero, List.set_cons_succ, bnd_s, bnd_n, Bool.and_true, Bool.true_and, Bool.or_true, Bool.true_or, Bool.or_false, Bool.false_or, Bool.and_false, Bool.false_and, Bool.not_true, Bool.not_false, cnd_t, cnd_f, List.all_cons, List.all_nil, nolA, nol, wipeR, tgIn, List.contains_cons, List.contains_nil, Nat.reduceBEq, Nat.reduceAdd, Nat.reduceSub, Nat.reduceLeDiff, decide_true, decide_false, permL, List.filterMap_cons, List.filterMap_nil, okTo_nx, turn_iff, List.map_map, getR_set, view_len, List.length_set, Nat.reduceLT, all_tt, comp_d, all_mp, ev_lzip, lz_l, ev_idx, ev_lc2, vwAt_od, frAt_od, frAt_nil, exec_set2, exec_setS, evS_go, setI_go, setE_ow, isSc_i, isSc_b, isSc_s, isSc_n, isSc_l, isSc_u, g0, g3, decide_eq_true c, decide_eq_true l1, decide_eq_true l1', decide_eq_true l3, decide_eq_true l3']
        refine lq_mk ?_
        show _ = dRows (xss ++ if x = k then _ else _)
        rw [if_pos c]
        unfold dRows
        rw [List.map_append] <;> rfl
      · simp only [execs_nil, execs_one, execs_cons, nxt_nx, nxt_rt, nxt_br, nxt_ct, exec_asg, exec_ret, exec_retN, exec_ifs, exec_for, exec_whl, exec_brk, exec_cnt, exec_pas, exec_app, exec_par, exec_aug, ev_var, getR_view, vwAt_fz, vwAt_ow, frz_go, frzA_nil, frzA_any, frAt_fz, frAt_no, frAt_ow, ev_int, ev_bool, ev_none, ev_dic0, ev_str, ev_bin, ev_un, boolK_t, boolK_f, boolK_b, ev_and, ev_or, notK_b, ev_not, ev_ife, ev_chn, ev_tup, ev_lst, ev_sl, ev_rev, ev_cb, lrK_i, ev_lrg1, ev_lrg2, ev_call, ev_kcall, ev_lc, evs_nil, evs_cons, evP_no, intK_i, evP_at, evQ_no, evQ_at, tstK_b, evT_val, evT_and, evT_or, evT_not, fl_t, fl_f, fl_i, fl_b, fl_n, fl_s, fl_l, fl_u, pb_mk, asg_i, asg_b, asg_s, asg_n, asg_l, asg_o, asg_u, asg_tp, setTs_nil, setTs_cons, bindTs_nil, bindTs_cons, bindS_nm, bindS_tp, bindT_nm, bindT_tp, app_i, app_b, app_l, app_u, appP_go, appE_ow, add_i, add_l, sub_i, mul_i, mul_lb, mul_tb, mul_ib, mod_i, fdiv_i, eq_i, ne_i, lt_i, le_i, gt_i, ge_i, in_u, notin_u, isN_d, notN_d, ix_l, ix_u, neg_i, len_l, len_u, min2_i, max2_i, int_i, int_b, list_l, list_u, tuple_l, tuple_u, abs_i, sum_l, any_l, all_l, src_l, src_u, src_1, src_2, src_e, src_z, isRng, vE, vEs, vP, vQ, vT, List.length_cons, List.length_nil, List.length_map, List.map_cons, List.map_nil, List.cons_append, List.nil_append, List.append_nil, List.replicate, List.getElem?_cons_zero, List.getElem?_cons_succ, List.set_cons_zero, List.set_cons_succ, bnd_s, bnd_n, Bool.and_true, Bool.true_and, Bool.or_true, Bool.true_or, Bool.or_false, Bool.false_or, Bool.and_false, Bool.false_and, Bool.not_true, Bool.not_false, cnd_t, cnd_f, List.all_cons, List.all_nil, nolA, nol, wipeR, tgIn, List.contains_cons, List.contains_nil, Nat.reduceBEq, Nat.reduceAdd, Nat.reduceSub, Nat.reduceLeDiff, decide_true, decide_false, permL, List.filterMap_cons, List.filterMap_nil, okTo_nx, turn_iff, List.map_map, getR_set, view_len, List.length_set, Nat.reduceLT, all_tt, comp_d, all_mp, ev_lzip, lz_l, ev_idx, ev_lc2, vwAt_od, frAt_od, frAt_nil, exec_set2, exec_setS, evS_go, setI_go, setE_ow, isSc_i, isSc_b, isSc_s, isSc_n, isSc_l, isSc_u, g0, g3, decide_eq_false c, decide_eq_true l1, decide_eq_true l1', decide_eq_true l4]
        refine lq_mk ?_
        show _ = dRows (xss ++ if x = k then _ else _)
        rw [if_neg c, List.append_nil] <;> rfl
    · intro c hc
      have hc := mem_cs.mp hc
      have g := atI_int (ns := mk) (c := c) (by omega) (by omega)
      refine item_ok rfl ?_ fun _ => ?_
      · simp only [execs_nil, execs_one, execs_cons, nxt_nx, nxt_rt, nxt_br, nxt_ct, exec_asg, exec_ret, exec_retN, exec_ifs, exec_for, exec_whl, exec_brk, exec_cnt, exec_pas, exec_app, exec_par, exec_aug, ev_var, getR_view, vwAt_fz, vwAt_ow, frz_go, frzA_nil, frzA_any, frAt_fz, frAt_no, frAt_ow, ev_int, ev_bool, ev_none, ev_dic0, ev_str, ev_bin, ev_un, boolK_t, boolK_f, boolK_b, ev_and, ev_or, notK_b, ev_not, ev_ife, ev_chn, ev_tup, ev_lst, ev_sl, ev_rev, ev_cb, lrK_i, ev_lrg1, ev_lrg2, ev_call, ev_kcall, ev_lc, evs_nil, evs_cons, evP_no, intK_i, evP_at, evQ_no, evQ_at, tstK_b, evT_val, evT_and, evT_or, evT_not, fl_t, fl_f, fl_i, fl_b, fl_n, fl_s, fl_l, fl_u, pb_mk, asg_i, asg_b, asg_s, asg_n, asg_l, asg_o, asg_u, asg_tp, setTs_nil, setTs_cons, bindTs_nil, bindTs_cons, bindS_nm, bindS_tp, bindT_nm, bindT_tp, app_i, app_b, app_l, app_u, appP_go, appE_ow, add_i, add_l, sub_i, mul_i, mul_lb, mul_tb, mul_ib, mod_i, fdiv_i, eq_i, ne_i, lt_i, le_i, gt_i, ge_i, in_u, notin_u, isN_d, notN_d, ix_l, ix_u, neg_i, len_l, len_u, min2_i, max2_i, int_i, int_b, list_l, list_u, tuple_l, tuple_u, abs_i, sum_l, any_l, all_l, src_l, src_u, src_1, src_2, src_e, src_z, isRng, vE, vEs, vP, vQ, vT, List.length_cons, List.length_nil, List.length_map, List.map_cons, List.map_nil, List.cons_append, List.nil_append, List.append_nil, List.replicate, List.getElem?_cons_zero, List.getElem?_cons_succ, List.set_cons_zero, List.set_cons_succ, bnd_s, bnd_n, Bool.and_true, Bool.true_and, Bool.or_true, Bool.true_or, Bool.or_false, Bool.false_or, Bool.and_false, Bool.false_and, Bool.not_true, Bool.not_false, cnd_t, cnd_f, List.all_cons, List.all_nil, nolA, nol, wipeR, tgIn, List.contains_cons, List.contains_nil, Nat.reduceBEq, Nat.reduceAdd, Nat.reduceSub, Nat.reduceLeDiff, decide_true, decide_false, permL, List.filterMap_cons, List.filterMap_nil, okTo_nx, turn_iff, List.map_map, getR_set, view_len, List.length_set, Nat.reduceLT, all_tt, comp_d, all_mp, ev_lzip, lz_l, ev_idx, ev_lc2, vwAt_od, frAt_od, frAt_nil, exec_set2, exec_setS, evS_go, setI_go, setE_ow, isSc_i, isSc_b, isSc_s, isSc_n, isSc_l, isSc_u, g, g1]
      · simp only [execs_nil, execs_one, execs_cons, nxt_nx, nxt_rt, nxt_br, nxt_ct, exec_asg, exec_ret, exec_retN, exec_ifs, exec_for, exec_whl, exec_brk, exec_cnt, exec_pas, exec_app, exec_par, exec_aug, ev_var, getR_view, vwAt_fz, vwAt_ow, frz_go, frzA_nil, frzA_any, frAt_fz, frAt_no, frAt_ow, ev_int, ev_bool, ev_none, ev_dic0, ev_str, ev_bin, ev_un, boolK_t, boolK_f, boolK_b, ev_and, ev_or, notK_b, ev_not, ev_ife, ev_chn, ev_tup, ev_lst, ev_sl, ev_rev, ev_cb, lrK_i, ev_lrg1, ev_lrg2, ev_call, ev_kcall, ev_lc, evs_nil, evs_cons, evP_no, intK_i, evP_at, evQ_no, evQ_at, tstK_b, evT_val, evT_and, evT_or, evT_not, fl_t, fl_f, fl_i, fl_b, fl_n, fl_s, fl_l, fl_u, pb_mk, asg_i, asg_b, asg_s, asg_n, asg_l, asg_o, asg_u, asg_tp, setTs_nil, setTs_cons, bindTs_nil, bindTs_cons, bindS_nm, bindS_tp, bindT_nm, bindT_tp, app_i, app_b, app_l, app_u, appP_go, appE_ow, add_i, add_l, sub_i, mul_i, mul_lb, mul_tb, mul_ib, mod_i, fdiv_i, eq_i, ne_i, lt_i, le_i, gt_i, ge_i, in_u, notin_u, isN_d, notN_d, ix_l, ix_u, neg_i, len_l, len_u, min2_i, max2_i, int_i, int_b, list_l, list_u, tuple_l, tuple_u, abs_i, sum_l, any_l, all_l, src_l, src_u, src_1, src_2, src_e, src_z, isRng, vE, vEs, vP, vQ, vT, List.length_cons, List.length_nil, List.length_map, List.map_cons, List.map_nil, List.cons_append, List.nil_append, List.append_nil, List.replicate, List.getElem?_cons_zero, List.getElem?_cons_succ, List.set_cons_zero, List.set_cons_succ, bnd_s, bnd_n, Bool.and_true, Bool.true_and, Bool.or_true, Bool.true_or, Bool.or_false, Bool.false_or, Bool.and_false, Bool.false_and, Bool.not_true, Bool.not_false, cnd_t, cnd_f, List.all_cons, List.all_nil, nolA, nol, wipeR, tgIn, List.contains_cons, List.contains_nil, Nat.reduceBEq, Nat.reduceAdd, Nat.reduceSub, Nat.reduceLeDiff, decide_true, decide_false, permL, List.filterMap_cons, List.filterMap_nil, okTo_nx, turn_iff, List.map_map, getR_set, view_len, List.length_set, Nat.reduceLT, all_tt, comp_d, all_mp, ev_lzip, lz_l, ev_idx, ev_lc2, vwAt_od, frAt_od, frAt_nil, exec_set2, exec_setS, evS_go, setI_go, setE_ow, isSc_i, isSc_b, isSc_s, isSc_n, isSc_l, isSc_u, g, g1]
theorem run_l_pieces {n : Int} (n1 : 1 ≤ n) (n16 : n ≤ 16) {es : List (Int × Int)} (hI : Inc n es) :
    fn_l_pieces [.int n, .list (es.map dP)] = some (.list (dRows (pcsF n es)), true) := by
  refine runZ_go rfl ?_
  have r0 := rgB_small (a := 0) (b := n + 1) (by omega) (by omega) (by omega) (by omega)
  have q : -(2 ^ 62) ≤ (1 : Int) ∧ (1 : Int) < 2 ^ 62 ∧ -(2 ^ 62) ≤ n + 1 ∧ n + 1 < 2 ^ 62 := by omega
  obtain ⟨ρ', e1, i1⟩ := forE_mem (tg := .tp [3, 4]) (b := a_l_pieces_1) (g := fun e => (dP e, nol (dP e))) (f := mStep) (lp_st n (es.map dP)) es
    (fun mk e ρ he h => by
      have hm := hI e he
      exact lp_turn n1 n16 hm.1 hm.2.1 hm.2.2 h) (names0 n)
    [.fz (.int n, true), .fz (.list (es.map dP), false), .ow ((names0 n).map PyData.int) true, .no, .no, .no, .no, .no, .no, .no] ⟨_, _, _, _, _, _, _, rfl, names0_len' (by omega)⟩
  obtain ⟨j3, j4, j5, j6, j7, j8, j9, rfl, h1⟩ := i1
  obtain ⟨ρ', e2, i2⟩ := forE_ix (tg := .nm 6) (b := a_l_pieces_2) (g := fun c => ((.int c, true) : PB)) (items := cs n) (fun i ρ => lq_st n (es.map dP) (marksF n es) (((cs n).take i).flatMap (lawOne n (marksF n es))) ρ)
    (fun i k ρ hi h => by
      have hk := mem_cs.mp (List.mem_of_getElem? hi)
      have il : i < (cs n).length := (List.getElem?_eq_some_iff.mp hi).1
      have len : (((cs n).take i).flatMap (lawOne n (marksF n es))).length ≤ 1000 := by
        have key : ∀ l : List Int, (l.flatMap (lawOne n (marksF n es))).length ≤ l.length := by
          intro l
          induction l with
          | nil => exact Nat.le_refl _
          | cons x l ih =>
            rw [List.flatMap_cons, List.length_append, List.length_cons]
            have : (lawOne n (marksF n es) x).length ≤ 1 := by
              unfold lawOne
              split
              · exact Nat.le_refl _
              · exact Nat.zero_le _
            omega
        have := key ((cs n).take i)
        rw [List.length_take, cs_len] at this
        omega
      have z := lq_turn n1 n16 (marks_len (by omega) es) hk.1 hk.2 len h
      rw [List.take_succ, hi, List.flatMap_append]
      show TurnOk _ _ _ _ (lq_st n _ _ (_ ++ ([k].flatMap (lawOne n (marksF n es)))))
      rw [List.flatMap_cons, List.flatMap_nil, List.append_nil]
      exact z)
    [.fz (.int n, true), .fz (.list (es.map dP), false), .ow ((marksF n es).map PyData.int) true, j3, j4, .ow [] true, j6, j7, j8, j9] ⟨_, _, _, _, _, _, _, rfl, .inl rfl⟩
  obtain ⟨y2, y3, y4, y6, y7, y8, y9, rfl, _⟩ := i2
  unfold a_l_pieces
  have em : es.foldl mStep (names0 n) = marksF n es := rfl
  rw [em] at e1
  simp only [execs_nil, execs_one, execs_cons, nxt_nx, nxt_rt, nxt_br, nxt_ct, exec_asg, exec_ret, exec_retN, exec_ifs, exec_for, exec_whl, exec_brk, exec_cnt, exec_pas, exec_app, exec_par, exec_aug, ev_var, getR_view, vwAt_fz, vwAt_ow, frz_go, frzA_nil, frzA_any, frAt_fz, frAt_no, frAt_ow, ev_int, ev_bool, ev_none, ev_dic0, ev_str, ev_bin, ev_un, boolK_t, boolK_f, boolK_b, ev_and, ev_or, notK_b, ev_not, ev_ife, ev_chn, ev_tup, ev_lst, ev_sl, ev_rev, ev_cb, lrK_i, ev_lrg1, ev_lrg2, ev_call, ev_kcall, ev_lc, evs_nil, evs_cons, evP_no, intK_i, evP_at, evQ_no, evQ_at, tstK_b, evT_val, evT_and, evT_or, evT_not, fl_t, fl_f, fl_i, fl_b, fl_n, fl_s, fl_l, fl_u, pb_mk, asg_i, asg_b, asg_s, asg_n, asg_l, asg_o, asg_u, asg_tp, setTs_nil, setTs_cons, bindTs_nil, bindTs_cons, bindS_nm, bindS_tp, bindT_nm, bindT_tp, app_i, app_b, app_l, app_u, appP_go, appE_ow, add_i, add_l, sub_i, mul_i, mul_lb, mul_tb, mul_ib, mod_i, fdiv_i, eq_i, ne_i, lt_i, le_i, gt_i, ge_i, in_u, notin_u, isN_d, notN_d, ix_l, ix_u, neg_i, len_l, len_u, min2_i, max2_i, int_i, int_b, list_l, list_u, tuple_l, tuple_u, abs_i, sum_l, any_l, all_l, src_l, src_u, src_1, src_2, src_e, src_z, isRng, vE, vEs, vP, vQ, vT, List.length_cons, List.length_nil, List.length_map, List.map_cons, List.map_nil, List.cons_append, List.nil_append, List.append_nil, List.replicate, List.getElem?_cons_zero, List.getElem?_cons_succ, List.set_cons_zero, List.set_cons_succ, bnd_s, bnd_n, Bool.and_true, Bool.true_and, Bool.or_true, Bool.true_or, Bool.or_false, Bool.false_or, Bool.and_false, Bool.false_and, Bool.not_true, Bool.not_false, cnd_t, cnd_f, List.all_cons, List.all_nil, nolA, nol, wipeR, tgIn, List.contains_cons, List.contains_nil, Nat.reduceBEq, Nat.reduceAdd, Nat.reduceSub, Nat.reduceLeDiff, decide_true, decide_false, permL, List.filterMap_cons, List.filterMap_nil, okTo_nx, turn_iff, List.map_map, getR_set, view_len, List.length_set, Nat.reduceLT, all_tt, comp_d, all_mp, ev_lzip, lz_l, ev_idx, ev_lc2, vwAt_od, frAt_od, frAt_nil, exec_set2, exec_setS, evS_go, setI_go, setE_ow, isSc_i, isSc_b, isSc_s, isSc_n, isSc_l, isSc_u, r0, rngD_names0, e1, decide_eq_true q, rngL_cs, Nat.zero_le, e2]
  rw [List.take_length]
  show some (Ot.rt (PyData.list (dRows (lawPcs n es)), true)) = _
  rw [law_pcs (by omega) hI]
/-! ### the law's ends -/
abbrev le_st (n : Int) (W : List PyData) (h : List Int) (ρ : RhoS) : Prop := ∃ j3 j4 j5 j6 : En, ρ = [.fz (.int n, true), .fz (.list W, false), .ow (h.map PyData.int) true, j3, j4, j5, j6] ∧ (h.length : Int) = n + 1
theorem le_turn {n : Int} (n1 : 1 ≤ n) (n16 : n ≤ 16) {W : List PyData} {h : List Int} {e : Int × Int} (i1 : 1 ≤ e.1) (i2 : e.1 < e.2) (i3 : e.2 ≤ n) {ρ : RhoS} (hs : le_st n W h ρ) :
    TurnOk (.tp [3, 4]) a_l_ends_1 (dP e, nol (dP e)) ρ (le_st n W (hStep h e)) := by
  obtain ⟨j3, j4, j5, j6, rfl, h1⟩ := hs
  have g1 := atI_int (ns := h) (c := e.1) (by omega) (by omega)
  have g2 := atI_int (ns := h) (c := e.2) (by omega) (by omega)
  have x1 := ixN_at (n := h.length) (c := e.1) (by omega) (by omega)
  have x2 := ixN_at (n := h.length) (c := e.2) (by omega) (by omega)
  unfold a_l_ends_1
  simp only [execs_nil, execs_one, execs_cons, nxt_nx, nxt_rt, nxt_br, nxt_ct, exec_asg, exec_ret, exec_retN, exec_ifs, exec_for, exec_whl, exec_brk, exec_cnt, exec_pas, exec_app, exec_par, exec_aug, ev_var, getR_view, vwAt_fz, vwAt_ow, frz_go, frzA_nil, frzA_any, frAt_fz, frAt_no, frAt_ow, ev_int, ev_bool, ev_none, ev_dic0, ev_str, ev_bin, ev_un, boolK_t, boolK_f, boolK_b, ev_and, ev_or, notK_b, ev_not, ev_ife, ev_chn, ev_tup, ev_lst, ev_sl, ev_rev, ev_cb, lrK_i, ev_lrg1, ev_lrg2, ev_call, ev_kcall, ev_lc, evs_nil, evs_cons, evP_no, intK_i, evP_at, evQ_no, evQ_at, tstK_b, evT_val, evT_and, evT_or, evT_not, fl_t, fl_f, fl_i, fl_b, fl_n, fl_s, fl_l, fl_u, pb_mk, asg_i, asg_b, asg_s, asg_n, asg_l, asg_o, asg_u, asg_tp, setTs_nil, setTs_cons, bindTs_nil, bindTs_cons, bindS_nm, bindS_tp, bindT_nm, bindT_tp, app_i, app_b, app_l, app_u, appP_go, appE_ow, add_i, add_l, sub_i, mul_i, mul_lb, mul_tb, mul_ib, mod_i, fdiv_i, eq_i, ne_i, lt_i, le_i, gt_i, ge_i, in_u, notin_u, isN_d, notN_d, ix_l, ix_u, neg_i, len_l, len_u, min2_i, max2_i, int_i, int_b, list_l, list_u, tuple_l, tuple_u, abs_i, sum_l, any_l, all_l, src_l, src_u, src_1, src_2, src_e, src_z, isRng, vE, vEs, vP, vQ, vT, List.length_cons, List.length_nil, List.length_map, List.map_cons, List.map_nil, List.cons_append, List.nil_append, List.append_nil, List.replicate, List.getElem?_cons_zero, List.getElem?_cons_succ, List.set_cons_zero, List.set_cons_succ, bnd_s, bnd_n, Bool.and_true, Bool.true_and, Bool.or_true, Bool.true_or, Bool.or_false, Bool.false_or, Bool.and_false, Bool.false_and, Bool.not_true, Bool.not_false, cnd_t, cnd_f, List.all_cons, List.all_nil, nolA, nol, wipeR, tgIn, List.contains_cons, List.contains_nil, Nat.reduceBEq, Nat.reduceAdd, Nat.reduceSub, Nat.reduceLeDiff, decide_true, decide_false, permL, List.filterMap_cons, List.filterMap_nil, okTo_nx, turn_iff, List.map_map, getR_set, view_len, List.length_set, Nat.reduceLT, all_tt, comp_d, all_mp, ev_lzip, lz_l, ev_idx, ev_lc2, vwAt_od, frAt_od, frAt_nil, exec_set2, exec_setS, evS_go, setI_go, setE_ow, isSc_i, isSc_b, isSc_s, isSc_n, isSc_l, isSc_u, dP, g1, g2, x1, x2]
  refine ⟨.fz (.int e.1, true), .fz (.int e.2, true), j5, j6, ?_, ?_⟩
  · unfold hStep
    rw [List.map_set, List.map_set] <;> rfl
  · unfold hStep
    rw [List.length_set, List.length_set]
    exact h1
abbrev lf_st (n : Int) (W : List PyData) (h r : List Int) (ρ : RhoS) : Prop := ∃ j3 j4 j6 : En, ρ = [.fz (.int n, true), .fz (.list W, false), .ow (h.map PyData.int) true, j3, j4, .ow (r.map PyData.int) true, j6] ∧ (r.length : Int) = n
def tStep (h r : List Int) (k : Int) : List Int := r.set (nAt h k - 1).toNat k
theorem lf_turn {n : Int} (n1 : 1 ≤ n) (n16 : n ≤ 16) {W : List PyData} {h r : List Int} (p : Prm n h) {k : Int} (k1 : 1 ≤ k) (k2 : k ≤ n) {ρ : RhoS} (hs : lf_st n W h r ρ) :
    TurnOk (.nm 6) a_l_ends_2 (.int k, true) ρ (lf_st n W h (tStep h r k)) := by
  obtain ⟨j3, j4, j6, rfl, h1⟩ := hs
  have lh := p.len
  have g1 := atI_int (ns := h) (c := k) (by omega) (by omega)
  have rg := p.rg k k1 k2
  have x1 := ixN_at (n := r.length) (c := nAt h k - 1) (by omega) (by omega)
  unfold a_l_ends_2
  simp only [execs_nil, execs_one, execs_cons, nxt_nx, nxt_rt, nxt_br, nxt_ct, exec_asg, exec_ret, exec_retN, exec_ifs, exec_for, exec_whl, exec_brk, exec_cnt, exec_pas, exec_app, exec_par, exec_aug, ev_var, getR_view, vwAt_fz, vwAt_ow, frz_go, frzA_nil, frzA_any, frAt_fz, frAt_no, frAt_ow, ev_int, ev_bool, ev_none, ev_dic0, ev_str, ev_bin, ev_un, boolK_t, boolK_f, boolK_b, ev_and, ev_or, notK_b, ev_not, ev_ife, ev_chn, ev_tup, ev_lst, ev_sl, ev_rev, ev_cb, lrK_i, ev_lrg1, ev_lrg2, ev_call, ev_kcall, ev_lc, evs_nil, evs_cons, evP_no, intK_i, evP_at, evQ_no, evQ_at, tstK_b, evT_val, evT_and, evT_or, evT_not, fl_t, fl_f, fl_i, fl_b, fl_n, fl_s, fl_l, fl_u, pb_mk, asg_i, asg_b, asg_s, asg_n, asg_l, asg_o, asg_u, asg_tp, setTs_nil, setTs_cons, bindTs_nil, bindTs_cons, bindS_nm, bindS_tp, bindT_nm, bindT_tp, app_i, app_b, app_l, app_u, appP_go, appE_ow, add_i, add_l, sub_i, mul_i, mul_lb, mul_tb, mul_ib, mod_i, fdiv_i, eq_i, ne_i, lt_i, le_i, gt_i, ge_i, in_u, notin_u, isN_d, notN_d, ix_l, ix_u, neg_i, len_l, len_u, min2_i, max2_i, int_i, int_b, list_l, list_u, tuple_l, tuple_u, abs_i, sum_l, any_l, all_l, src_l, src_u, src_1, src_2, src_e, src_z, isRng, vE, vEs, vP, vQ, vT, List.length_cons, List.length_nil, List.length_map, List.map_cons, List.map_nil, List.cons_append, List.nil_append, List.append_nil, List.replicate, List.getElem?_cons_zero, List.getElem?_cons_succ, List.set_cons_zero, List.set_cons_succ, bnd_s, bnd_n, Bool.and_true, Bool.true_and, Bool.or_true, Bool.true_or, Bool.or_false, Bool.false_or, Bool.and_false, Bool.false_and, Bool.not_true, Bool.not_false, cnd_t, cnd_f, List.all_cons, List.all_nil, nolA, nol, wipeR, tgIn, List.contains_cons, List.contains_nil, Nat.reduceBEq, Nat.reduceAdd, Nat.reduceSub, Nat.reduceLeDiff, decide_true, decide_false, permL, List.filterMap_cons, List.filterMap_nil, okTo_nx, turn_iff, List.map_map, getR_set, view_len, List.length_set, Nat.reduceLT, all_tt, comp_d, all_mp, ev_lzip, lz_l, ev_idx, ev_lc2, vwAt_od, frAt_od, frAt_nil, exec_set2, exec_setS, evS_go, setI_go, setE_ow, isSc_i, isSc_b, isSc_s, isSc_n, isSc_l, isSc_u, g1, x1]
  refine ⟨j3, j4, .fz (.int k, true), ?_, ?_⟩
  · unfold tStep
    rw [List.map_set] <;> rfl
  · unfold tStep
    rw [List.length_set]
    exact h1
theorem tFold_at (h : List Int) : ∀ (L : List Int) (r : List Int) (q : Nat), (∀ c ∈ L, (nAt h c - 1).toNat ≠ q) → (L.foldl (tStep h) r)[q]? = r[q]?
  | [], _, _, _ => rfl
  | k :: L, r, q, hq => by
    rw [List.foldl_cons, tFold_at h L _ q fun c hc => hq c (List.mem_cons_of_mem _ hc)]
    unfold tStep
    rw [List.getElem?_set_ne (hq k List.mem_cons_self)]
theorem tFold_len (h : List Int) : ∀ (L : List Int) (r : List Int), (L.foldl (tStep h) r).length = r.length
  | [], _ => rfl
  | k :: L, r => by
    rw [List.foldl_cons, tFold_len h L]
    unfold tStep
    rw [List.length_set]
theorem tFold_in {n : Int} {h : List Int} (p : Prm n h) : ∀ (L : List Int) (r : List Int), L.Nodup → (∀ c ∈ L, 1 ≤ c ∧ c ≤ n) → (r.length : Int) = n → ∀ k ∈ L, (L.foldl (tStep h) r)[(nAt h k - 1).toNat]? = some k
  | [], _, _, _, _, k, hk => (List.not_mem_nil hk).elim
  | x :: L, r, nd, hr, hl, k, hk => by
    rw [List.foldl_cons]
    rw [List.nodup_cons] at nd
    have hl' : ((tStep h r x).length : Int) = n := by
      unfold tStep
      rw [List.length_set]
      exact hl
    rcases List.mem_cons.mp hk with rfl | hk
    · have hx := hr k List.mem_cons_self
      have rg := p.rg k hx.1 hx.2
      rw [tFold_at h L]
      · unfold tStep
        rw [List.getElem?_set_self (by omega)]
      · intro c hc e
        have hc' := hr c (List.mem_cons_of_mem _ hc)
        have rc := p.rg c hc'.1 hc'.2
        have : c = k := p.inj c k hc'.1 hc'.2 hx.1 hx.2 (by omega)
        exact nd.1 (this ▸ hc)
    · exact tFold_in p L _ nd.2 (fun c hc => hr c (List.mem_cons_of_mem _ hc)) hl' k hk
theorem tells_fold {n : Int} (hn : 0 ≤ n) {h : List Int} (p : Prm n h) : Tells n h ((cs n).foldl (tStep h) (List.replicate n.toNat 0)) :=
  ⟨by rw [tFold_len, List.length_replicate]; omega, fun k k1 k2 => tFold_in p (cs n) _ (cs_nodup n) (fun c hc => mem_cs.mp hc) (by rw [List.length_replicate]; omega) k (mem_cs.mpr ⟨k1, k2⟩)⟩
theorem run_l_ends {n : Int} (n1 : 1 ≤ n) (n16 : n ≤ 16) {es : List (Int × Int)} (hI : Inc n es) :
    fn_l_ends [.int n, .list (es.map dP)] = some (dL (endsF n es), true) := by
  refine runZ_go rfl ?_
  have r0 := rgB_small (a := 0) (b := n + 1) (by omega) (by omega) (by omega) (by omega)
  have q : -(2 ^ 62) ≤ (1 : Int) ∧ (1 : Int) < 2 ^ 62 ∧ -(2 ^ 62) ≤ n + 1 ∧ n + 1 < 2 ^ 62 := by omega
  obtain ⟨ρ', e1, i1⟩ := forE_mem (tg := .tp [3, 4]) (b := a_l_ends_1) (g := fun e => (dP e, nol (dP e))) (f := hStep) (le_st n (es.map dP)) es
    (fun mk e ρ he h => by
      have hm := hI e he
      exact le_turn n1 n16 hm.1 hm.2.1 hm.2.2 h) (names0 n)
    [.fz (.int n, true), .fz (.list (es.map dP), false), .ow ((names0 n).map PyData.int) true, .no, .no, .no, .no] ⟨_, _, _, _, rfl, names0_len' (by omega)⟩
  obtain ⟨j3, j4, j5, j6, rfl, h1⟩ := i1
  have p : Prm n (heldF n es) := Prm.all hI.inR (Prm.zero (by omega))
  obtain ⟨ρ', e2, i2⟩ := forE_mem (tg := .nm 6) (b := a_l_ends_2) (g := fun c => ((.int c, true) : PB)) (f := tStep (heldF n es)) (fun r ρ => lf_st n (es.map dP) (heldF n es) r ρ) (cs n)
    (fun r k ρ hk h => lf_turn n1 n16 p (mem_cs.mp hk).1 (mem_cs.mp hk).2 h) (List.replicate n.toNat 0)
    [.fz (.int n, true), .fz (.list (es.map dP), false), .ow ((heldF n es).map PyData.int) true, frAt [0] 3 j3, frAt [0] 4 j4, .ow ((List.replicate n.toNat (0 : Int)).map PyData.int) true, frAt [0] 6 j6] ⟨_, _, _, rfl, by rw [List.length_replicate]; omega⟩
  obtain ⟨y3, y4, y6, rfl, _⟩ := i2
  have em : es.foldl hStep (names0 n) = heldF n es := rfl
  rw [em] at e1
  have c1 : -(2 ^ 63) ≤ n ∧ n < 2 ^ 63 ∧ ([PyData.int 0]).length * n.toNat ≤ 100000 := by
    rw [List.length_singleton]
    omega
  have m0 : Op2.f .mul (.list [.int 0], true) (.int n, true) = some ⟨.list ((List.replicate n.toNat (0 : Int)).map PyData.int), true, true⟩ := by
    rw [mul_l, decide_eq_true c1]
    show some (Rs.mk (PyData.list (List.replicate n.toNat [PyData.int 0]).flatten) true true) = _
    rw [List.map_replicate]
    have : ∀ k : Nat, (List.replicate k [PyData.int 0]).flatten = List.replicate k (PyData.int 0) := by
      intro k
      induction k with
      | zero => rfl
      | succ k ih => rw [List.replicate_succ, List.flatten_cons, ih, List.replicate_succ] <;> rfl
    rw [this]
  unfold a_l_ends
  simp only [execs_nil, execs_one, execs_cons, nxt_nx, nxt_rt, nxt_br, nxt_ct, exec_asg, exec_ret, exec_retN, exec_ifs, exec_for, exec_whl, exec_brk, exec_cnt, exec_pas, exec_app, exec_par, exec_aug, ev_var, getR_view, vwAt_fz, vwAt_ow, frz_go, frzA_nil, frzA_any, frAt_fz, frAt_no, frAt_ow, ev_int, ev_bool, ev_none, ev_dic0, ev_str, ev_bin, ev_un, boolK_t, boolK_f, boolK_b, ev_and, ev_or, notK_b, ev_not, ev_ife, ev_chn, ev_tup, ev_lst, ev_sl, ev_rev, ev_cb, lrK_i, ev_lrg1, ev_lrg2, ev_call, ev_kcall, ev_lc, evs_nil, evs_cons, evP_no, intK_i, evP_at, evQ_no, evQ_at, tstK_b, evT_val, evT_and, evT_or, evT_not, fl_t, fl_f, fl_i, fl_b, fl_n, fl_s, fl_l, fl_u, pb_mk, asg_i, asg_b, asg_s, asg_n, asg_l, asg_o, asg_u, asg_tp, setTs_nil, setTs_cons, bindTs_nil, bindTs_cons, bindS_nm, bindS_tp, bindT_nm, bindT_tp, app_i, app_b, app_l, app_u, appP_go, appE_ow, add_i, add_l, sub_i, mul_i, mul_lb, mul_tb, mul_ib, mod_i, fdiv_i, eq_i, ne_i, lt_i, le_i, gt_i, ge_i, in_u, notin_u, isN_d, notN_d, ix_l, ix_u, neg_i, len_l, len_u, min2_i, max2_i, int_i, int_b, list_l, list_u, tuple_l, tuple_u, abs_i, sum_l, any_l, all_l, src_l, src_u, src_1, src_2, src_e, src_z, isRng, vE, vEs, vP, vQ, vT, List.length_cons, List.length_nil, List.length_map, List.map_cons, List.map_nil, List.cons_append, List.nil_append, List.append_nil, List.replicate, List.getElem?_cons_zero, List.getElem?_cons_succ, List.set_cons_zero, List.set_cons_succ, bnd_s, bnd_n, Bool.and_true, Bool.true_and, Bool.or_true, Bool.true_or, Bool.or_false, Bool.false_or, Bool.and_false, Bool.false_and, Bool.not_true, Bool.not_false, cnd_t, cnd_f, List.all_cons, List.all_nil, nolA, nol, wipeR, tgIn, List.contains_cons, List.contains_nil, Nat.reduceBEq, Nat.reduceAdd, Nat.reduceSub, Nat.reduceLeDiff, decide_true, decide_false, permL, List.filterMap_cons, List.filterMap_nil, okTo_nx, turn_iff, List.map_map, getR_set, view_len, List.length_set, Nat.reduceLT, all_tt, comp_d, all_mp, ev_lzip, lz_l, ev_idx, ev_lc2, vwAt_od, frAt_od, frAt_nil, exec_set2, exec_setS, evS_go, setI_go, setE_ow, isSc_i, isSc_b, isSc_s, isSc_n, isSc_l, isSc_u, r0, rngD_names0, e1, m0, decide_eq_true q, rngL_cs, Nat.zero_le, e2]
  rw [tells_ends (by omega) hI (tells_fold (by omega) p)] <;> rfl
end Un

set_option maxRecDepth 100000
set_option maxHeartbeats 8000000
namespace Un
open PySem PySem.Spec PyProof.Rows L2
/-! ### what _law_odd_webs tells -/
def rowsOf (G : List PyData) (x : PyData) : List PyData := [.tuple [.list [x], .int 0], .tuple [.list (G ++ [x]), .int (G.length : Nat)], .tuple [.list (G ++ [x, .none]), .int (G.length : Nat)], .tuple [.list (x :: G), .int 0]]
def goodD (n : Int) : List PyData := (List.range (n - 1).toNat).map fun i => .tuple [.int 1, .int (2 + (i : Nat))]
def baseD : List PyData := [.none, .tuple [], .tuple [.tuple [.int 1, .int 2]], .dict [], .str "12", .int 5]
def thingsD (n : Int) : List PyData := [.none, .tuple [], .tuple [.int 1], .tuple [.int 1, .int 2, .int 3], .list [.int 1, .int 2], .str "12", .tuple [.int 2, .int 1], .tuple [.int 1, .int 1], .tuple [.int 0, .int 1], .tuple [.int 1, .int (n + 1)], .tuple [.bool true, .int 2], .tuple [.int 1, .none]]
def moreD : List PyData := [.tuple [.none, .int 2], .tuple [.str "1", .int 2], .tuple [.list [.int 1], .int 2], .tuple [.int (-1), .int 2], .tuple [.int (-2), .int (-1)], .tuple [.int 1, .str "2"], .tuple [.int 1, .list [.int 2]]]
def lastD (n : Int) : List PyData := if 2 < n then [.tuple [.list (goodD n ++ (goodD n).drop ((goodD n).length - 1)), .int ((goodD n).length : Nat)], .tuple [.list ((goodD n).reverse ++ [.none]), .int 1]] else []
def oddD (n : Int) : List PyData := (((thingsD n ++ moreD).map fun d => ((d, true) : PB)).foldl (fun L x => L ++ rowsOf (goodD n) x.1) (baseD.map fun x => .tuple [x, .none])) ++ lastD n
def OdIv (n : Int) (G : List PyData) (L : List PyData) (ρ : RhoS) : Prop := L.length ≤ 900 ∧ ∃ (b gb : Bool) (j3 j4 j5 : En), ρ = [.fz (.int n, true), .ow L b, .fz (.list G, gb), j3, j4, j5] ∨ ρ = [.fz (.int n, true), .ow L b, .ow G gb, j3, j4, j5]
theorem rows_app {G L : List PyData} {x : PyData} : L ++ [PyData.tuple [PyData.list [x], PyData.int 0]] ++ [PyData.tuple [PyData.list (G ++ [x]), PyData.int (G.length : Nat)]] ++ [PyData.tuple [PyData.list (G ++ [x, PyData.none]), PyData.int (G.length : Nat)]] ++ [PyData.tuple [PyData.list (x :: G), PyData.int 0]] = L ++ rowsOf G x := by
  unfold rowsOf
  simp only [List.append_assoc, List.cons_append, List.nil_append]
theorem od_turn {n : Int} {G L : List PyData} {d : PyData} {nf : Bool} {ρ : RhoS} (hG : G.length ≤ 100) (h : ∃ (b gb : Bool) (j3 j4 j5 : En), ρ = [.fz (.int n, true), .ow L b, .fz (.list G, gb), j3, j4, j5] ∨ ρ = [.fz (.int n, true), .ow L b, .ow G gb, j3, j4, j5]) (hL : L.length ≤ 1000) :
    TurnOk (.nm 4) a_l_odd_webs_1 (d, nf) ρ fun ρ => ∃ (b gb : Bool) (j3 j4 j5 : En), ρ = [.fz (.int n, true), .ow (L ++ rowsOf G d) b, .fz (.list G, gb), j3, j4, j5] ∨ ρ = [.fz (.int n, true), .ow (L ++ rowsOf G d) b, .ow G gb, j3, j4, j5] := by
  obtain ⟨b, gb, j3, j4, j5, rfl | rfl⟩ := h
  all_goals
    rw [turn_iff]
    unfold a_l_odd_webs_1
    have l1 : L.length < 100000 := by omega
    have l2 : L.length + 1 < 100000 := by omega
    have l3 : L.length + 1 + 1 < 100000 := by omega
    have l4 : L.length + 1 + 1 + 1 < 100000 := by omega
    have g1 : G.length ≤ 99999 := by omega
    have g2 : G.length ≤ 99998 := by omega
    have g3 : 1 + G.length ≤ 100000 := by omega
    simp only [execs_nil, execs_one, execs_cons, nxt_nx, nxt_rt, nxt_br, nxt_ct, exec_asg, exec_ret, exec_retN, exec_ifs, exec_for, exec_whl, exec_brk, exec_cnt, exec_pas, exec_app, exec_par, exec_aug, ev_var, getR_view, vwAt_fz, vwAt_ow, frz_go, frzA_nil, frzA_any, frAt_fz, frAt_no, frAt_ow, ev_int, ev_bool, ev_none, ev_dic0, ev_str, ev_bin, ev_un, boolK_t, boolK_f, boolK_b, ev_and, ev_or, notK_b, ev_not, ev_ife, ev_chn, ev_tup, ev_lst, ev_sl, ev_rev, ev_cb, lrK_i, ev_lrg1, ev_lrg2, ev_call, ev_kcall, ev_lc, evs_nil, evs_cons, evP_no, intK_i, evP_at, evQ_no, evQ_at, tstK_b, evT_val, evT_and, evT_or, evT_not, fl_t, fl_f, fl_i, fl_b, fl_n, fl_s, fl_l, fl_u, pb_mk, asg_i, asg_b, asg_s, asg_n, asg_l, asg_o, asg_u, asg_tp, setTs_nil, setTs_cons, bindTs_nil, bindTs_cons, bindS_nm, bindS_tp, bindT_nm, bindT_tp, app_i, app_b, app_l, app_u, appP_go, appE_ow, add_i, add_l, sub_i, mul_i, mul_lb, mul_tb, mul_ib, mod_i, fdiv_i, eq_i, ne_i, lt_i, le_i, gt_i, ge_i, in_u, notin_u, isN_d, notN_d, ix_l, ix_u, neg_i, len_l, len_u, min2_i, max2_i, int_i, int_b, list_l, list_u, tuple_l, tuple_u, abs_i, sum_l, any_l, all_l, src_l, src_u, src_1, src_2, src_e, src_z, isRng, vE, vEs, vP, vQ, vT, List.length_cons, List.length_nil, List.length_map, List.map_cons, List.map_nil, List.cons_append, List.nil_append, List.append_nil, List.replicate, List.getElem?_cons_zero, List.getElem?_cons_succ, List.set_cons_zero, List.set_cons_succ, bnd_s, bnd_n, Bool.and_true, Bool.true_and, Bool.or_true, Bool.true_or, Bool.or_false, Bool.false_or, Bool.and_false, Bool.false_and, Bool.not_true, Bool.not_false, cnd_t, cnd_f, List.all_cons, List.all_nil, nolA, nol, wipeR, tgIn, List.contains_cons, List.contains_nil, Nat.reduceBEq, Nat.reduceAdd, Nat.reduceSub, Nat.reduceLeDiff, decide_true, decide_false, permL, List.filterMap_cons, List.filterMap_nil, okTo_nx, turn_iff, List.map_map, getR_set, view_len, List.length_set, Nat.reduceLT, all_tt, comp_d, all_mp, ev_lzip, lz_l, ev_idx, ev_lc2, vwAt_od, frAt_od, frAt_nil, exec_set2, exec_setS, evS_go, setI_go, setE_ow, isSc_i, isSc_b, isSc_s, isSc_n, isSc_l, isSc_u, l1, l2, l3, l4, g1, g2, g3, List.length_append, List.length_singleton]
    exact ⟨_, _, _, _, _, .inl (by rw [rows_app])⟩
theorem good_len {n : Int} (h1 : 2 ≤ n) (h2 : n ≤ 16) : (goodD n).length ≤ 15 := by
  unfold goodD
  rw [List.length_map, List.length_range]
  omega
def OdS (n : Int) (G L : List PyData) (ρ : RhoS) : Prop := ∃ (b gb : Bool) (j3 j4 j5 : En), ρ = [.fz (.int n, true), .ow L b, .fz (.list G, gb), j3, j4, j5] ∨ ρ = [.fz (.int n, true), .ow L b, .ow G gb, j3, j4, j5]
theorem rows_len {G : List PyData} {x : PyData} : (rowsOf G x).length = 4 := rfl
theorem od_fold {n : Int} {G : List PyData} (hG : G.length ≤ 100) : ∀ (xs : List PB) (L : List PyData) (ρ : RhoS), L.length + 4 * xs.length ≤ 900 → OdS n G L ρ →
    ∃ ρ', forE (.nm 4) a_l_odd_webs_1 xs ρ = some (.nx ρ') ∧ OdS n G (xs.foldl (fun L x => L ++ rowsOf G x.1) L) ρ'
  | [], L, ρ, _, h => ⟨ρ, rfl, h⟩
  | x :: xs, L, ρ, hl, h => by
    rw [List.length_cons] at hl
    obtain ⟨ρ1, ρ2, h1, h2, h3⟩ := turn_ex (od_turn (d := x.1) (nf := x.2) hG h (by omega))
    obtain ⟨ρ', e, i⟩ := od_fold hG xs (L ++ rowsOf G x.1) ρ2 (by rw [List.length_append, rows_len]; omega) h3
    refine ⟨ρ', ?_, i⟩
    unfold forE at e ⊢
    unfold forGo
    rw [show (x.1, x.2) = x from rfl] at h1
    rw [h1]
    show (execs _ ρ1).bind _ = _
    rw [h2]
    exact e
theorem fold_len {G : List PyData} : ∀ (xs : List PB) (L : List PyData), (xs.foldl (fun L x => L ++ rowsOf G x.1) L).length = L.length + 4 * xs.length
  | [], L => rfl
  | x :: xs, L => by
    rw [List.foldl_cons, fold_len xs, List.length_append, rows_len, List.length_cons]
    omega
theorem od_go {n : Int} {G L R : List PyData} {xs : List PB} {ρ : RhoS} {k : Ot → Option Ot} (hG : G.length ≤ 100) (h : OdS n G L ρ) (hl : L.length + 4 * xs.length ≤ 900) (hk : ∀ (L' : List PyData) (ρ' : RhoS), L' = xs.foldl (fun L x => L ++ rowsOf G x.1) L → L'.length ≤ 900 → OdS n G L' ρ' → ∃ b, k (.nx ρ') = some (.rt (.list R, b))) :
    ∃ b, ((forE (.nm 4) a_l_odd_webs_1 xs ρ).bind k) = some (.rt (.list R, b)) := by
  obtain ⟨ρ', e, i⟩ := od_fold hG xs L ρ hl h
  rw [e]
  exact hk _ ρ' rfl (by rw [fold_len]; exact hl) i
theorem sl_last {G : List PyData} {gb : Bool} (h : 1 ≤ G.length) : slK (PyData.list G, gb) (some (-1)) none = some ⟨.list (G.drop (G.length - 1)), gb, true⟩ := by
  unfold slK
  dsimp only
  have e1 : HT.sIx G.length 0 (some (-1)) = G.length - 1 := by
    show (if (-1 : Int) < 0 then ((-1 : Int) + (G.length : Int)).toNat else min (-1 : Int).toNat G.length) = _
    rw [if_pos (by decide)]
    omega
  have e2 : HT.sIx G.length G.length none = G.length := rfl
  rw [e1, e2, List.take_of_length_le (by rw [List.length_drop]; exact Nat.le_refl _)]
theorem rt_go {l l' : List PyData} {b : Bool} (h : l = l') : ∃ b', some (Ot.rt (.list l, b)) = some (Ot.rt (.list l', b')) := ⟨b, by rw [h]⟩
theorem run_odd {n : Int} (h1 : 2 ≤ n) (h2 : n ≤ 16) : ∃ b, fn_l_odd_webs [.int n] = some (.list (oddD n), b) := by
  have gl := good_len h1 h2
  have r0 := rgB_small (a := 2) (b := n + 1) (by omega) (by omega) (by omega) (by omega)
  have q : -(2 ^ 62) ≤ (2 : Int) ∧ (2 : Int) < 2 ^ 62 ∧ -(2 ^ 62) ≤ n + 1 ∧ n + 1 < 2 ^ 62 := by omega
  have main : ∃ b, (execs a_l_odd_webs [.fz (.int n, true), .no, .no, .no, .no, .no]) = some (.rt (.list (oddD n), b)) := by
    unfold a_l_odd_webs
    have e1 : lcE (.nm 4) .no (.tup (.cons (.var 4) (.cons (.cst .none) .nil))) (List.set (view [4] [En.fz (PyData.int n, true), En.no, En.no, En.no, En.no, En.no]) 4 none)
        [(PyData.none, true), (PyData.tuple [], true), (PyData.tuple [PyData.tuple [PyData.int 1, PyData.int 2]], true), (PyData.dict [], true), (PyData.str "12", true), (PyData.int 5, true)] = some [(PyData.tuple [.none, .none], true), (PyData.tuple [.tuple [], .none], true), (PyData.tuple [.tuple [.tuple [.int 1, .int 2]], .none], true), (PyData.tuple [.dict [], .none], true), (PyData.tuple [.str "12", .none], true), (PyData.tuple [.int 5, .none], true)] := by kernel_rfl
    have qd := decide_eq_true q
    simp only [execs_nil, execs_one, execs_cons, nxt_nx, nxt_rt, nxt_br, nxt_ct, exec_asg, exec_ret, exec_retN, exec_ifs, exec_for, exec_whl, exec_brk, exec_cnt, exec_pas, exec_app, exec_par, exec_aug, ev_var, getR_view, vwAt_fz, vwAt_ow, frz_go, frzA_nil, frzA_any, frAt_fz, frAt_no, frAt_ow, ev_int, ev_bool, ev_none, ev_dic0, ev_str, ev_bin, ev_un, boolK_t, boolK_f, boolK_b, ev_and, ev_or, notK_b, ev_not, ev_ife, ev_chn, ev_tup, ev_lst, ev_sl, ev_rev, ev_cb, lrK_i, ev_lrg1, ev_lrg2, ev_call, ev_kcall, ev_lc, evs_nil, evs_cons, evP_no, intK_i, evP_at, evQ_no, evQ_at, tstK_b, evT_val, evT_and, evT_or, evT_not, fl_t, fl_f, fl_i, fl_b, fl_n, fl_s, fl_l, fl_u, pb_mk, asg_i, asg_b, asg_s, asg_n, asg_l, asg_o, asg_u, asg_tp, setTs_nil, setTs_cons, bindTs_nil, bindTs_cons, bindS_nm, bindS_tp, bindT_nm, bindT_tp, app_i, app_b, app_l, app_u, appP_go, appE_ow, add_i, add_l, sub_i, mul_i, mul_lb, mul_tb, mul_ib, mod_i, fdiv_i, eq_i, ne_i, lt_i, le_i, gt_i, ge_i, in_u, notin_u, isN_d, notN_d, ix_l, ix_u, neg_i, len_l, len_u, min2_i, max2_i, int_i, int_b, list_l, list_u, tuple_l, tuple_u, abs_i, sum_l, any_l, all_l, src_l, src_u, src_1, src_2, src_e, src_z, isRng, vE, vEs, vP, vQ, vT, List.length_cons, List.length_nil, List.length_map, List.map_cons, List.map_nil, List.cons_append, List.nil_append, List.append_nil, List.replicate, List.getElem?_cons_zero, List.getElem?_cons_succ, List.set_cons_zero, List.set_cons_succ, bnd_s, bnd_n, Bool.and_true, Bool.true_and, Bool.or_true, Bool.true_or, Bool.or_false, Bool.false_or, Bool.and_false, Bool.false_and, Bool.not_true, Bool.not_false, cnd_t, cnd_f, List.all_cons, List.all_nil, nolA, nol, wipeR, tgIn, List.contains_cons, List.contains_nil, Nat.reduceBEq, Nat.reduceAdd, Nat.reduceSub, Nat.reduceLeDiff, decide_true, decide_false, permL, List.filterMap_cons, List.filterMap_nil, okTo_nx, turn_iff, List.map_map, getR_set, view_len, List.length_set, Nat.reduceLT, all_tt, comp_d, all_mp, ev_lzip, lz_l, ev_idx, ev_lc2, vwAt_od, frAt_od, frAt_nil, exec_set2, exec_setS, evS_go, setI_go, setE_ow, isSc_i, isSc_b, isSc_s, isSc_n, isSc_l, isSc_u, r0, qd, e1]
    have e2 : lcE (.nm 5) .no (.tup (.cons (.cst (.int 1)) (.cons (.var 5) .nil))) (List.set (view [0, 5] [En.fz (PyData.int n, true), En.ow [PyData.tuple [PyData.none, PyData.none], PyData.tuple [PyData.tuple [], PyData.none], PyData.tuple [PyData.tuple [PyData.tuple [PyData.int 1, PyData.int 2]], PyData.none], PyData.tuple [PyData.dict [], PyData.none], PyData.tuple [PyData.str "12", PyData.none], PyData.tuple [PyData.int 5, PyData.none]] true, En.no, En.no, En.no, En.no]) 5 none) (rngL 2 (n + 1 - 2).toNat) = some ((List.range (n - 1).toNat).map fun i => ((.tuple [.int 1, .int (2 + (i : Nat))], true) : PB)) := by
      rw [show n + 1 - 2 = n - 1 by omega]
      exact lcE_all (g := fun i : Nat => ((.int (2 + (i : Int)), true) : PB)) (fun i => ((.tuple [.int 1, .int (2 + (i : Int))], true) : PB)) (List.range (n - 1).toNat) fun i _ => item_ok rfl rfl fun _ => rfl
    rw [e2]
    have l2 : (List.range (n - 1).toNat).length ≤ 100000 := by
      rw [List.length_range]
      omega
    have eG : List.map (fun x : PB => x.1) ((List.range (n - 1).toNat).map fun i => ((.tuple [.int 1, .int (2 + (i : Nat))], true) : PB)) = goodD n := by
      rw [List.map_map]
      rfl
    have eB : (((List.range (n - 1).toNat).map fun i => ((.tuple [.int 1, .int (2 + (i : Nat))], true) : PB)).all fun x => x.2) = true := by
      rw [List.all_eq_true]
      intro x hx
      obtain ⟨i, _, rfl⟩ := List.mem_map.mp hx
      rfl
    simp only [execs_nil, execs_one, execs_cons, nxt_nx, nxt_rt, nxt_br, nxt_ct, exec_asg, exec_ret, exec_retN, exec_ifs, exec_for, exec_whl, exec_brk, exec_cnt, exec_pas, exec_app, exec_par, exec_aug, ev_var, getR_view, vwAt_fz, vwAt_ow, frz_go, frzA_nil, frzA_any, frAt_fz, frAt_no, frAt_ow, ev_int, ev_bool, ev_none, ev_dic0, ev_str, ev_bin, ev_un, boolK_t, boolK_f, boolK_b, ev_and, ev_or, notK_b, ev_not, ev_ife, ev_chn, ev_tup, ev_lst, ev_sl, ev_rev, ev_cb, lrK_i, ev_lrg1, ev_lrg2, ev_call, ev_kcall, ev_lc, evs_nil, evs_cons, evP_no, intK_i, evP_at, evQ_no, evQ_at, tstK_b, evT_val, evT_and, evT_or, evT_not, fl_t, fl_f, fl_i, fl_b, fl_n, fl_s, fl_l, fl_u, pb_mk, asg_i, asg_b, asg_s, asg_n, asg_l, asg_o, asg_u, asg_tp, setTs_nil, setTs_cons, bindTs_nil, bindTs_cons, bindS_nm, bindS_tp, bindT_nm, bindT_tp, app_i, app_b, app_l, app_u, appP_go, appE_ow, add_i, add_l, sub_i, mul_i, mul_lb, mul_tb, mul_ib, mod_i, fdiv_i, eq_i, ne_i, lt_i, le_i, gt_i, ge_i, in_u, notin_u, isN_d, notN_d, ix_l, ix_u, neg_i, len_l, len_u, min2_i, max2_i, int_i, int_b, list_l, list_u, tuple_l, tuple_u, abs_i, sum_l, any_l, all_l, src_l, src_u, src_1, src_2, src_e, src_z, isRng, vE, vEs, vP, vQ, vT, List.length_cons, List.length_nil, List.length_map, List.map_cons, List.map_nil, List.cons_append, List.nil_append, List.append_nil, List.replicate, List.getElem?_cons_zero, List.getElem?_cons_succ, List.set_cons_zero, List.set_cons_succ, bnd_s, bnd_n, Bool.and_true, Bool.true_and, Bool.or_true, Bool.true_or, Bool.or_false, Bool.false_or, Bool.and_false, Bool.false_and, Bool.not_true, Bool.not_false, cnd_t, cnd_f, List.all_cons, List.all_nil, nolA, nol, wipeR, tgIn, List.contains_cons, List.contains_nil, Nat.reduceBEq, Nat.reduceAdd, Nat.reduceSub, Nat.reduceLeDiff, decide_true, decide_false, permL, List.filterMap_cons, List.filterMap_nil, okTo_nx, turn_iff, List.map_map, getR_set, view_len, List.length_set, Nat.reduceLT, all_tt, comp_d, all_mp, ev_lzip, lz_l, ev_idx, ev_lc2, vwAt_od, frAt_od, frAt_nil, exec_set2, exec_setS, evS_go, setI_go, setE_ow, isSc_i, isSc_b, isSc_s, isSc_n, isSc_l, isSc_u, l2, eG, eB]
    refine od_go (xs := (thingsD n ++ moreD).map fun d => ((d, true) : PB)) (L := baseD.map fun x => .tuple [x, .none]) (by omega) ⟨_, _, _, _, _, .inr rfl⟩ (by show 6 + 4 * 19 ≤ 900; decide) fun L' ρ' eL lL hρ => ?_
    obtain ⟨b3, gb, k3, k4, k5, rfl | rfl⟩ := hρ
    all_goals
      by_cases c : 2 < n
      · have c1 := decide_eq_true c
        have l1 : L'.length < 100000 := by omega
        have l2 : L'.length + 1 < 100000 := by omega
        have g1 : (goodD n).length ≤ 100000 := by omega
        have g2 : (goodD n).length ≤ 99999 := by omega
        have g3 : 1 ≤ (goodD n).length := by
          unfold goodD
          rw [List.length_map, List.length_range]
          omega
        have g4 : (goodD n).length + ((goodD n).length - ((goodD n).length - 1)) ≤ 100000 := by omega
        have sl := sl_last (gb := gb) g3
        have rv : revK (PyData.list (goodD n), gb) = some ⟨.list (goodD n).reverse, gb, true⟩ := id rfl
        simp only [execs_nil, execs_one, execs_cons, nxt_nx, nxt_rt, nxt_br, nxt_ct, exec_asg, exec_ret, exec_retN, exec_ifs, exec_for, exec_whl, exec_brk, exec_cnt, exec_pas, exec_app, exec_par, exec_aug, ev_var, getR_view, vwAt_fz, vwAt_ow, frz_go, frzA_nil, frzA_any, frAt_fz, frAt_no, frAt_ow, ev_int, ev_bool, ev_none, ev_dic0, ev_str, ev_bin, ev_un, boolK_t, boolK_f, boolK_b, ev_and, ev_or, notK_b, ev_not, ev_ife, ev_chn, ev_tup, ev_lst, ev_sl, ev_rev, ev_cb, lrK_i, ev_lrg1, ev_lrg2, ev_call, ev_kcall, ev_lc, evs_nil, evs_cons, evP_no, intK_i, evP_at, evQ_no, evQ_at, tstK_b, evT_val, evT_and, evT_or, evT_not, fl_t, fl_f, fl_i, fl_b, fl_n, fl_s, fl_l, fl_u, pb_mk, asg_i, asg_b, asg_s, asg_n, asg_l, asg_o, asg_u, asg_tp, setTs_nil, setTs_cons, bindTs_nil, bindTs_cons, bindS_nm, bindS_tp, bindT_nm, bindT_tp, app_i, app_b, app_l, app_u, appP_go, appE_ow, add_i, add_l, sub_i, mul_i, mul_lb, mul_tb, mul_ib, mod_i, fdiv_i, eq_i, ne_i, lt_i, le_i, gt_i, ge_i, in_u, notin_u, isN_d, notN_d, ix_l, ix_u, neg_i, len_l, len_u, min2_i, max2_i, int_i, int_b, list_l, list_u, tuple_l, tuple_u, abs_i, sum_l, any_l, all_l, src_l, src_u, src_1, src_2, src_e, src_z, isRng, vE, vEs, vP, vQ, vT, List.length_cons, List.length_nil, List.length_map, List.map_cons, List.map_nil, List.cons_append, List.nil_append, List.append_nil, List.replicate, List.getElem?_cons_zero, List.getElem?_cons_succ, List.set_cons_zero, List.set_cons_succ, bnd_s, bnd_n, Bool.and_true, Bool.true_and, Bool.or_true, Bool.true_or, Bool.or_false, Bool.false_or, Bool.and_false, Bool.false_and, Bool.not_true, Bool.not_false, cnd_t, cnd_f, List.all_cons, List.all_nil, nolA, nol, wipeR, tgIn, List.contains_cons, List.contains_nil, Nat.reduceBEq, Nat.reduceAdd, Nat.reduceSub, Nat.reduceLeDiff, decide_true, decide_false, permL, List.filterMap_cons, List.filterMap_nil, okTo_nx, turn_iff, List.map_map, getR_set, view_len, List.length_set, Nat.reduceLT, all_tt, comp_d, all_mp, ev_lzip, lz_l, ev_idx, ev_lc2, vwAt_od, frAt_od, frAt_nil, exec_set2, exec_setS, evS_go, setI_go, setE_ow, isSc_i, isSc_b, isSc_s, isSc_n, isSc_l, isSc_u, c, c1, l1, l2, g1, g2, g4, sl, rv, List.length_append, List.length_singleton, List.length_reverse, List.length_drop]
        refine rt_go ?_
        unfold oddD lastD
        rw [if_pos c, ← eL]
        exact List.append_assoc _ _ _
      · have c1 := decide_eq_false c
        simp only [execs_nil, execs_one, execs_cons, nxt_nx, nxt_rt, nxt_br, nxt_ct, exec_asg, exec_ret, exec_retN, exec_ifs, exec_for, exec_whl, exec_brk, exec_cnt, exec_pas, exec_app, exec_par, exec_aug, ev_var, getR_view, vwAt_fz, vwAt_ow, frz_go, frzA_nil, frzA_any, frAt_fz, frAt_no, frAt_ow, ev_int, ev_bool, ev_none, ev_dic0, ev_str, ev_bin, ev_un, boolK_t, boolK_f, boolK_b, ev_and, ev_or, notK_b, ev_not, ev_ife, ev_chn, ev_tup, ev_lst, ev_sl, ev_rev, ev_cb, lrK_i, ev_lrg1, ev_lrg2, ev_call, ev_kcall, ev_lc, evs_nil, evs_cons, evP_no, intK_i, evP_at, evQ_no, evQ_at, tstK_b, evT_val, evT_and, evT_or, evT_not, fl_t, fl_f, fl_i, fl_b, fl_n, fl_s, fl_l, fl_u, pb_mk, asg_i, asg_b, asg_s, asg_n, asg_l, asg_o, asg_u, asg_tp, setTs_nil, setTs_cons, bindTs_nil, bindTs_cons, bindS_nm, bindS_tp, bindT_nm, bindT_tp, app_i, app_b, app_l, app_u, appP_go, appE_ow, add_i, add_l, sub_i, mul_i, mul_lb, mul_tb, mul_ib, mod_i, fdiv_i, eq_i, ne_i, lt_i, le_i, gt_i, ge_i, in_u, notin_u, isN_d, notN_d, ix_l, ix_u, neg_i, len_l, len_u, min2_i, max2_i, int_i, int_b, list_l, list_u, tuple_l, tuple_u, abs_i, sum_l, any_l, all_l, src_l, src_u, src_1, src_2, src_e, src_z, isRng, vE, vEs, vP, vQ, vT, List.length_cons, List.length_nil, List.length_map, List.map_cons, List.map_nil, List.cons_append, List.nil_append, List.append_nil, List.replicate, List.getElem?_cons_zero, List.getElem?_cons_succ, List.set_cons_zero, List.set_cons_succ, bnd_s, bnd_n, Bool.and_true, Bool.true_and, Bool.or_true, Bool.true_or, Bool.or_false, Bool.false_or, Bool.and_false, Bool.false_and, Bool.not_true, Bool.not_false, cnd_t, cnd_f, List.all_cons, List.all_nil, nolA, nol, wipeR, tgIn, List.contains_cons, List.contains_nil, Nat.reduceBEq, Nat.reduceAdd, Nat.reduceSub, Nat.reduceLeDiff, decide_true, decide_false, permL, List.filterMap_cons, List.filterMap_nil, okTo_nx, turn_iff, List.map_map, getR_set, view_len, List.length_set, Nat.reduceLT, all_tt, comp_d, all_mp, ev_lzip, lz_l, ev_idx, ev_lc2, vwAt_od, frAt_od, frAt_nil, exec_set2, exec_setS, evS_go, setI_go, setE_ow, isSc_i, isSc_b, isSc_s, isSc_n, isSc_l, isSc_u, c, c1]
        refine rt_go ?_
        unfold oddD lastD
        rw [if_neg c, ← eL, List.append_nil]
  obtain ⟨b, e⟩ := main
  exact ⟨b, runZ_go rfl e⟩
end Un

set_option maxRecDepth 100000
set_option maxHeartbeats 8000000
namespace Un
open PySem PySem.Spec PyProof.Rows L2 LamX
-- law: 0:_law_script 1:_law_draws_here 2:_law_size 3:_law_bad 4:_law_at 5:_law_before 6:_law_cell
def xLa1 : EXs := (.cons (.cst (.int 1)) (.cons (.lst (.cons (.tup (.cons (.cst (.int 1)) (.cons (.cst (.int 1)) .nil))) .nil)) (.cons (.lst (.cons (.cst (.str "web")) (.cons (.cst (.int 0)) .nil))) .nil)))
def xLa2 : EXs := (.cons (.cst (.int 1)) (.cons (.lst (.cons (.tup (.cons (.cst (.int 1)) (.cons (.cst (.int 2)) .nil))) .nil)) (.cons (.lst (.cons (.cst (.str "web")) (.cons (.cst (.int 0)) .nil))) .nil)))
def xLe1 : EX := (.lst (.cons (.cst .none) (.cons (.cst (.int 0)) (.cons (.un .neg (.cst (.int 1))) (.cons (.cst (.int 17)) (.cons (.cst (.bool true)) (.cons (.cst (.bool false)) (.cons (.cst (.str "3")) (.cons (.lst (.cons (.cst (.int 3)) .nil)) (.cons (.tup (.cons (.cst (.int 3)) .nil)) (.cons (.bin .pow (.cst (.int 10)) (.cst (.int 19))) .nil)))))))))))
def xLa3 : EXs := (.cons (.var 3) (.cons (.lst .nil) (.cons (.lst (.cons (.cst (.str "cells")) (.cons (.var 3) .nil))) .nil)))
def xLa4 : EXs := (.cons (.var 3) (.cons (.lst (.cons (.tup (.cons (.cst (.int 1)) (.cons (.cst (.int 2)) .nil))) .nil)) (.cons (.lst (.cons (.cst (.str "cells")) (.cons (.var 3) .nil))) .nil)))
def xLa5 : EXs := (.cons (.var 3) (.cons (.cst .none) (.cons (.lst (.cons (.cst (.str "cells")) (.cons (.var 3) .nil))) .nil)))
def xLa6 : EXs := (.cons (.var 2) .nil)
def xLa7 : EXs := (.cons (.var 2) (.cons (.var 3) (.cons (.lst (.cons (.cst (.str "web")) (.cons (.var 4) .nil))) .nil)))
/-! ### what the odd webs are, by reckoning -/
def shortB : PyData → Bool
  | .list ds => decide (ds.length ≤ 1000)
  | _ => true
theorem shortB_ok {d : PyData} (h : shortB d = true) : shortD d := fun ds e => by
  subst e
  exact of_decide_eq_true h
def sameB (a b : PyData) : Bool := match a, b with
    | .none, .none => true
    | .int i, .int j => decide (i = j)
    | .bool i, .bool j => decide (i = j)
    | .str i, .str j => decide (i = j)
    | _, _ => false
theorem sameB_ok {a b : PyData} (h : sameB a b = true) : a = b := by
  unfold sameB at h
  split at h
  · rfl
  · rw [of_decide_eq_true h]
  · rw [of_decide_eq_true h]
  · rw [of_decide_eq_true h]
  · cases h
def askIs (c w : PyData) (kd : ErK) (pd : PyData) : Bool := match askW c w with
  | some (kd', pd') => decide (kd' = kd) && sameB pd' pd
  | none => false
theorem askIs_ok {c w pd : PyData} {kd : ErK} (h : askIs c w kd pd = true) : askW c w = some (kd, pd) := by
  unfold askIs at h
  split at h
  · rename_i kd' pd' h0
    rw [Bool.and_eq_true, decide_eq_true_eq] at h
    rw [h0, h.1, sameB_ok h.2]
  · cases h
def rowOk (n : Int) : PyData → Bool
  | .tuple [bad, at_] => smallX bad && shortB bad && askIs (.int n) bad .web at_ && smallB (keptD .web at_)
  | _ => false
theorem odd_all : ((List.range 15).all fun m => (oddD (2 + (m : Int))).all (rowOk (2 + (m : Int)))) = true := by decide +kernel
theorem odd_ok {n : Int} (h1 : 2 ≤ n) (h2 : n ≤ 16) {d : PyData} (hd : d ∈ oddD n) : ∃ bad at_, d = .tuple [bad, at_] ∧ ReprX bad ∧ shortD bad ∧ askW (.int n) bad = some (.web, at_) ∧ ReprOk (keptD .web at_) := by
  have e : n = 2 + ((n - 2).toNat : Int) := by omega
  have h := List.all_eq_true.mp odd_all (n - 2).toNat (List.mem_range.mpr (by omega))
  rw [← e] at h
  have := List.all_eq_true.mp h d hd
  unfold rowOk at this
  split at this
  · rename_i bad at_
    simp only [Bool.and_eq_true] at this
    exact ⟨bad, at_, rfl, smallX_ok this.1.1.1, shortB_ok this.1.1.2, askIs_ok this.1.2, smallB_ok this.2⟩
  · cases this
theorem askD_cells {c w : PyData} (h : cellsBad 1 16 c = true) : askW c w = some (.cells, c) := by
  unfold askW
  rw [if_pos h]
def sizesBad : List PyData := [.none, .int 0, .int (-1), .int 17, .bool true, .bool false, .str "3", .list [.int 3], .tuple [.int 3], .int (10 ^ 19)]
theorem sizes_ok {d : PyData} (hd : d ∈ sizesBad) : (∀ w, askW d w = some (.cells, d)) ∧ ReprOk (keptD .cells d) := by
  have h : (sizesBad.all fun d => cellsBad 1 16 d && smallB (keptD .cells d)) = true := by decide +kernel
  have h := List.all_eq_true.mp h d hd
  rw [Bool.and_eq_true] at h
  exact ⟨fun w => askD_cells h.1, smallB_ok h.2⟩
/-! ### the law's own lambdas -/
abbrev qL : PySem.Str := "law.<locals>.<lambda>"
abbrev dL1 : LamD := lamD qL [] s_law (lamIn2 (bodyAt s_law 3))
abbrev dL2 : LamD := lamD qL [] s_law (lamIn2 (bodyAt s_law 4))
theorem lokL1 : LamOk dL1 := lamOk_by (by decide +kernel) fun _ _ _ _ => rfl
theorem lokL2 : LamOk dL2 := lamOk_by (by decide +kernel) fun _ _ _ _ => rfl
theorem lsbL1 : lamSB (defScope s_law) dL1.sc = true := by decide +kernel
theorem lsbL2 : lamSB (defScope s_law) dL2.sc = true := by decide +kernel
def xT1 : EXs := .cons (.cst (.int 16)) (.cons (.lst (.cons (.tup (.cons (.cst (.int 15)) (.cons (.cst (.int 16)) .nil))) .nil)) .nil)
def xT2 : EXs := .cons (.cst (.int 1)) (.cons (.lst .nil) .nil)
section
variable {P : Program} {w : World} {K : PySem.W.Frag} {mg : Str → Option Value} {base : Heap}
def spTold : Sp := fun vs H Q _ => vs = [] ∧ ∀ v H', Same H H' → Q v H'
theorem pc_go {es : EXs} {ps : List PB} {H : Hp} {Q : VK} {n : Int} {ww : PyData} {r : PB} {E : XK} (h : evs es (rhoD []) = some ps) (hp : ps.map (·.1) = [.int n, ww]) (hs : shortD ww) (ha : askW (.int n) ww = none) (hf : fn_pieces_of [.int n, ww] = some r) (q : ∀ v H', Same H H' → Q v H') : tCall spPcOk [] E (tas K es) [] H Q := by
  refine tas_p .nil h fun vs H1 s1 r => ?_
  rw [hp] at r
  cases r with
  | cons r1 r =>
  cases r with
  | cons r2 r =>
  cases r
  cases r1
  exact ⟨n, _, ww, _, rfl, r2, hs, ha, hf, fun v H2 s2 => q v H2 (s1.trans s2)⟩
theorem fnl_t1 (c : CalX P w K mg base 6 "pieces" spPcOk []) : FnL P w K mg base 7 dL1 spTold := by
  refine fnL_ok lokL1 fun A outer s H E f c' cl hr => ⟨_, pe_cX (takes_of rfl rfl rfl rfl) c hr (by decide) (by rfl) (show PA _ _ (tas K xT1) from (pa_cons pe_int (pa_cons (pe_lst (pa_cons (pe_tup (pa_cons pe_int (pa_cons pe_int pa_nil))) pa_nil)) pa_nil))), fun vs H1 Q E1 eH hc eE h => ?_⟩
  subst eH eE
  obtain ⟨rfl, q⟩ := h
  exact pc_go (es := xT1) rfl rfl (fun ds e => by cases e; decide) (by rfl) (run_pieces (n := 16) (es := [(15, 16)]) (by decide) (by decide) (fun e he => by simp at he; try (rw [he]; decide)) (by decide)) fun v H' s' _ => q v _ (same_rec s')
theorem fnl_t2 (c : CalX P w K mg base 6 "pieces" spPcOk []) : FnL P w K mg base 7 dL2 spTold := by
  refine fnL_ok lokL2 fun A outer s H E f c' cl hr => ⟨_, pe_cX (takes_of rfl rfl rfl rfl) c hr (by decide) (by rfl) (show PA _ _ (tas K xT2) from (pa_cons pe_int (pa_cons (pe_lst pa_nil) pa_nil))), fun vs H1 Q E1 eH hc eE h => ?_⟩
  subst eH eE
  obtain ⟨rfl, q⟩ := h
  exact pc_go (es := xT2) rfl rfl (fun ds e => by cases e; decide) (by rfl) (run_pieces (n := 1) (es := []) (by decide) (by decide) (fun e he => by simp at he; try (rw [he]; decide)) (by decide)) fun v H' s' _ => q v _ (same_rec s')
theorem told_go {Ts : List (Addr × Str)} {Ea : ErK → Addr} {D : LamD} {cs : List (PySem.Str × Addr)} {σ : L2.St} {H : Hp} {Q : VK} (L : LamOk D) (e : D.N = []) (F : FnL P w K mg base 7 D spTold) (hT : Tabs Ts H) (q : ∀ H', ExtN H H' → Tabs Ts H' → Q (.str "told") H') :
    tCall (spKept P w K mg base 7 Ea) [] E0 (tCons (tLamV Ts cs D.q D.ps D.b D.sc) tNil) σ H Q := by
  refine call_lam hT fun f H1 x1 t1 m => ⟨f, D, spTold, [], rfl, F, made_none L e m, fun Q1 E1 hQ _ => ⟨rfl, fun v H2 s2 => hQ v H2 fun H3 s3 => ?_⟩⟩
  exact q H3 (x1.trans (.of (s2.trans s3))) (t1.ext (s2.trans s3))
def spLawT (T : List (Addr × Str)) (K : PySem.W.Frag) : Sp := fun vs H Q _ => ∃ (a : Addr) (ns : List Int), vs = [.ref a] ∧ SqL K H a (ns.map V.int) ∧ ns.length ≤ 63 ∧ Tabs T H ∧ ∀ H', Q (.bl true) H'
theorem law_ask {Ts : List (Addr × Str)} {Ea : ErK → Addr} {es : EXs} {qs : List (Option PyData)} {ps : List PB} {σ : L2.St} {H : Hp} {Q : VK} {c ww pd : PyData} {kd : ErK} (R : RpS H σ qs) (h : evs es (rhoD qs) = some ps) (hp : ps.map (·.1) = [c, ww, keptD kd pd]) (hs : shortD ww)
    (ha : askW c ww = some (kd, pd)) (ku : kUse kd = true) (rok : ReprOk (keptD kd pd)) (hT : Tabs Ts H) (q : ∀ H', ExtN H H' → Tabs Ts H' → Q (.bl true) H') : tCall (spAll Ts Ea) [] E0 (tas K es) σ H Q := by
  refine tas_p R h fun vs H1 s1 r => ?_
  rw [hp] at r
  cases r with
  | cons r1 r =>
  cases r with
  | cons r2 r =>
  cases r with
  | cons r3 r =>
  cases r
  exact ⟨_, _, _, c, ww, kd, pd, rfl, r1, r2, r3, hs, ha, ku, rok, hT.ext s1, fun H2 x2 t2 => q H2 ((ExtN.of s1).trans x2) t2⟩
theorem ok_law {f c Pt : Addr} {fd : FuncData} {Ts : List (Addr × Str)} {Ea : ErK → Addr} (F : FunC K "law" "law" s_law f fd c) (TB : LamX.TabB base mg c Pt) (hT : (Pt, qL) ∈ Ts) (hu : ∀ p ∈ Ts, p.1 = Pt → p.2 = qL) (T : Txt mg) (c_l_draws : C8.Cal P w K mg base 1 "_law_draws" spDraws []) (c_l_next : C8.Cal P w K mg base 1 "_law_next" spNext []) (c_l_odd_webs : CalG P w K mg base 1 "_law_odd_webs" (spZ fn_l_odd_webs))
    (cK : CalG P w K mg base 9 "_law_kept" (spKept P w K mg base 7 Ea)) (c_l_all : CalG P w K mg base 11 "_law_all" (spAll Ts Ea)) (cP : CalX P w K mg base 6 "pieces" spPcOk []) : FnG P w K mg base 13 f fd ["_law_script"] (spLawT Ts K) := by
  refine fnG_okC F sc_law (fun vs H Q E h => ?_) (fun A outer s H vs Q hg hr h => ?_)
  · obtain ⟨a, ns, rfl, _⟩ := h
    rfl
  · obtain ⟨a, ns, rfl, hS, hl, hTb, q⟩ := h
    refine ⟨_, (pss_cons (ps_for PassesOwn.never rfl (pi_list (by exact (pe_lc (own := [("_law_cell", 6)]) rfl sc_law.nd (pi_list (pe_op op_cat (pe_slice sl_list (pv 0) po_none (po_some pe_int)) (pe_lst (pa_cons pe_int pa_nil)))) (blkOk_by (by kernel_rfl)) (fun _ _ _ _ _ => (pg_name (i := 6) sc_law.nd rfl (by first | exact Or.inl rfl | exact Or.inr rfl))) (fun _ _ _ _ _ => pts_nil) (fun _ _ _ _ _ => (C8.pe_c c_l_draws hr (by decide) (by rfl) (pa_cons (pv 6) pa_nil)))))) (pg_name (i := 1) sc_law.nd rfl (by first | exact Or.inl rfl | exact Or.inr rfl)) (pss_one (ps_for PassesOwn.never rfl (pi_list (pe_lst (pa_cons (pe_op op_add pe_int (pe_op op_mod (pe_callTy call_int1 (by rfl) T.n_int (by decide +kernel) (pa_cons (C8.pe_c c_l_next hr (by decide) (by rfl) (pa_cons (pv 1) pa_nil)) pa_nil)) pe_int)) (pa_cons pe_int (pa_cons pe_int pa_nil))))) (pg_name (i := 2) sc_law.nd rfl (by first | exact Or.inl rfl | exact Or.inr rfl)) (pss_one (ps_for PassesOwn.never rfl (pi_any (pe_cG hg c_l_odd_webs hr (by decide) (by rfl) (show PA _ _ (tas K xLa6) from (pa_cons (pv 2) pa_nil)))) (pg_tup rfl (pgs_cons (pg_name (i := 3) sc_law.nd rfl (by first | exact Or.inl rfl | exact Or.inr rfl)) (pgs_cons (pg_name (i := 4) sc_law.nd rfl (by first | exact Or.inl rfl | exact Or.inr rfl)) pgs_nil))) (pss_cons (ps_set (i := 5) sc_law.nd rfl (by first | exact Or.inl rfl | exact Or.inr rfl) (pe_callB (call_reprX hg hr.units) (by rfl) T.n_repr (by decide +kernel) (pa_cons (pv 3) pa_nil)))
            (pss_one (ps_if (PW.pt (pw_or (pt_not (pt_val (pe_cG hg c_l_all hr (by decide) (by rfl) (show PA _ _ (tas K xLa7) from (pa_cons (pv 2) (pa_cons (pv 3) (pa_cons (pe_lst (pa_cons pe_str (pa_cons (pv 4) pa_nil))) pa_nil))))))) (pw_or1 (pt_cmpR op_ne (pe_callB (call_reprX hg hr.units) (by rfl) T.n_repr (by decide +kernel) (pa_cons (pv 3) pa_nil)) (pv 5) (by rfl))))) (pss_one (ps_ret pe_bl)) pss_nil))))))))
      (pss_cons (ps_for PassesOwn.never rfl (pi_any (show PE _ _ (te K xLe1) from (pe_lst (pa_cons pe_non (pa_cons pe_int (pa_cons (pe_un un_neg pe_int) (pa_cons pe_int (pa_cons pe_bl (pa_cons pe_bl (pa_cons pe_str (pa_cons (pe_lst (pa_cons pe_int pa_nil)) (pa_cons (pe_tup (pa_cons pe_int pa_nil)) (pa_cons (pe_op op_powB pe_int pe_int) pa_nil))))))))))))) (pg_name (i := 3) sc_law.nd rfl (by first | exact Or.inl rfl | exact Or.inr rfl)) (pss_cons (ps_if (PW.pt (pw_or (pt_not (pt_val (pe_cG hg c_l_all hr (by decide) (by rfl) (show PA _ _ (tas K xLa5) from (pa_cons (pv 3) (pa_cons pe_non (pa_cons (pe_lst (pa_cons pe_str (pa_cons (pv 3) pa_nil))) pa_nil))))))) (pw_or1 (pt_not (pt_val (pe_cG hg c_l_all hr (by decide) (by rfl) (show PA _ _ (tas K xLa4) from (pa_cons (pv 3) (pa_cons (pe_lst (pa_cons (pe_tup (pa_cons pe_int (pa_cons pe_int pa_nil))) pa_nil)) (pa_cons (pe_lst (pa_cons pe_str (pa_cons (pv 3) pa_nil))) pa_nil)))))))))) (pss_one (ps_ret pe_bl)) pss_nil)
        (pss_one (ps_if (pt_not (pt_val (pe_cG hg c_l_all hr (by decide) (by rfl) (show PA _ _ (tas K xLa3) from (pa_cons (pv 3) (pa_cons (pe_lst pa_nil) (pa_cons (pe_lst (pa_cons pe_str (pa_cons (pv 3) pa_nil))) pa_nil))))))) (pss_one (ps_ret pe_bl)) pss_nil))))
      (pss_cons (ps_if (PW.pt (pw_or (pt_not (pt_val (pe_cG hg c_l_all hr (by decide) (by rfl) (show PA _ _ (tas K xLa2) from (pa_cons pe_int (pa_cons (pe_lst (pa_cons (pe_tup (pa_cons pe_int (pa_cons pe_int pa_nil))) pa_nil)) (pa_cons (pe_lst (pa_cons pe_str (pa_cons pe_int pa_nil))) pa_nil))))))) (pw_or1 (pt_not (pt_val (pe_cG hg c_l_all hr (by decide) (by rfl) (show PA _ _ (tas K xLa1) from (pa_cons pe_int (pa_cons (pe_lst (pa_cons (pe_tup (pa_cons pe_int (pa_cons pe_int pa_nil))) pa_nil)) (pa_cons (pe_lst (pa_cons pe_str (pa_cons pe_int pa_nil))) pa_nil)))))))))) (pss_one (ps_ret pe_bl)) pss_nil)
      (pss_cons (ps_if (pt_cmpR op_ne (pe_cG hg cK hr (by decide) (by rfl) (pa_cons (pe_lam (T := Ts) TB rfl hT hu (fun ok => LamS.has (lamS_by lsbL1) ok)) pa_nil)) pe_str (by rfl)) (pss_one (ps_ret pe_bl)) pss_nil)
      (pss_one (ps_ret (pe_cmpR op_eq (pe_cG hg cK hr (by decide) (by rfl) (pa_cons (pe_lam (T := Ts) TB rfl hT hu (fun ok => LamS.has (lamS_by lsbL2) ok)) pa_nil)) pe_str (by rfl)))))))), ?_⟩
    refine outer_okT (T := Ts) (i := 6) (c := 3) (fun σ => ∃ v1 v2 v3 v4 v5 : Option V, σ = [some (.ref a), v1, v2, v3, v4, v5, none]) hTb ⟨_, _, _, _, _, rfl⟩ rfl (by show 6 < 7; decide) hS hl ?_ ?_
    · rintro d σ H1 N ⟨v1, v2, v3, v4, v5, rfl⟩ x01 t1 n0 dr0 hN
      refine ⟨_, rfl, d, 0, rfl, dr0, by omega, fun H2 x2 b2 d2 z2 => .inl ⟨x2, rfl, ?_⟩⟩
      refine ⟨x2, 15, rfl, rfl, (by show (0 : Int) < 15; decide), ?_⟩
      refine ⟨2, x2 % 15, rfl, rfl, ?_⟩
      have z0 := Int.emod_nonneg x2 (show (15 : Int) ≠ 0 by decide)
      have z1 := Int.emod_lt_of_pos x2 (show (0 : Int) < 15 by decide)
      obtain ⟨m1, m2⟩ : 2 ≤ 2 + x2 % 15 ∧ 2 + x2 % 15 ≤ 16 := by omega
      dsimp only
      generalize 2 + x2 % 15 = m at m1 m2 ⊢
      have t2 : Tabs Ts H2 := tabs_drw t1 dr0 b2
      have c2 : SameBN (· = d) H1 H2 := .ofB b2
      have fin : ∀ {v2 v3 v4 v5 : Option V} {H3 : Hp}, ExtN H2 H3 → Tabs Ts H3 → N [some (.ref a), some (.ref d), v2, v3, v4, v5, none] H3 := fun {v2 v3 v4 v5 H3} x t => hN _ _ ⟨_, _, _, _, _, rfl⟩ (c2.trans (.of x)) t
      clear x01 dr0 b2 d2 z2 z0 z1 c2 hN t1
      refine ⟨(by show 3 ≤ sizeLine; decide), fun p np => ?_⟩
      have s3 : Same H2 (upd H2 p (.lst [.int m, .int 16, .int 2])) := same_upd np
      refine ⟨p, rfl, ⟨_, sqL_of upd_same⟩, for_rows (D := { nx := N, rt := Q }) (ds := [.int m, .int 16, .int 2]) upd_same (.cons (.int _) (.cons (.int _) (.cons (.int _) .nil))) (t2.ext s3) (fun _ σ' => ∃ v2 v3 v4 v5 : Option V, σ' = [some (.ref a), some (.ref d), v2, v3, v4, v5, none]) ⟨_, _, _, _, rfl⟩ ?_ ?_⟩
      · rintro i D x σ' H4 N' hD ⟨v2, v3, v4, v5, rfl⟩ x4 t4 rx hN
        obtain ⟨n, rfl, n1, n2⟩ : ∃ n : Int, D = .int n ∧ 2 ≤ n ∧ n ≤ 16 := by
          have := List.mem_of_getElem? hD
          simp only [List.mem_cons, List.not_mem_nil, or_false] at this
          rcases this with rfl | rfl | rfl
          · exact ⟨_, rfl, m1, m2⟩
          · exact ⟨_, rfl, by decide, by decide⟩
          · exact ⟨_, rfl, by decide, by decide⟩
        cases rx
        refine gName_go ?_
        show tFor _ _ _ _ [some (.ref a), some (.ref d), some (.int n), v3, v4, v5, none] H4
        obtain ⟨bo, hodd⟩ := run_odd n1 n2
        refine for_call (es := xLa6) (qs := [none, none, some (.int n), none, none, none, none]) (.no (.no (.yes (.int n) (.no (.no (.no (.no .nil))))))) rfl rfl hodd t4 (fun _ σ' => ∃ v3 v4 v5 : Option V, σ' = [some (.ref a), some (.ref d), some (.int n), v3, v4, v5, none]) ⟨_, _, _, rfl⟩ ?_ ?_
        · rintro i D x σ' H5 N2 hD ⟨v3, v4, v5, rfl⟩ x5 t5 rx hN2
          obtain ⟨bad, at_, rfl, kx, ksh, kask, kr⟩ := odd_ok n1 n2 (List.mem_of_getElem? hD)
          refine tup2_go (i := 3) (j := 4) rx fun y1 y2 rb rt => ?_
          refine ⟨_, rfl, _, bad, rfl, rb, kx, ?_⟩
          refine law_ask (es := xLa7) (qs := [none, none, some (.int n), some bad, some at_, none, none]) (.no (.no (.yes (.int n) (.yes rb (.yes rt (.no (.no .nil))))))) rfl rfl ksh kask rfl kr t5 fun H6 x6 t6 => ⟨_, rfl, iteF ?_⟩
          refine ⟨_, rfl, _, bad, rfl, rb.ext x6, kx, _, rfl, rfl, false, by simp, iteF ?_⟩
          exact hN2 _ _ ⟨_, _, _, rfl⟩ x6 t6
        · rintro σ' H5 ⟨v3, v4, v5, rfl⟩ x5 t5
          exact hN _ _ ⟨_, _, _, _, rfl⟩ x5 t5
      · rintro σ' H4 ⟨v2, v3, v4, v5, rfl⟩ x4 t4
        exact fin ((ExtN.of s3).trans x4) t4
    · rintro σ' H1 ⟨v1, v2, v3, v4, v5, rfl⟩ x1 t1
      refine for_te (e := xLe1) (ds := sizesBad) (qs := [none, none, none, none, none, none, none]) (.no (.no (.no (.no (.no (.no (.no .nil))))))) rfl rfl t1 (fun _ σ' => ∃ v1 v2 v3 v4 v5 : Option V, σ' = [some (.ref a), v1, v2, v3, v4, v5, none]) ⟨_, _, _, _, _, rfl⟩ ?_ ?_
      · rintro i D x σ' H3 N' hD ⟨v1, v2, v3, v4, v5, rfl⟩ x3 t3 rx hN
        obtain ⟨k1, k3⟩ := sizes_ok (List.mem_of_getElem? hD)
        refine gName_go ?_
        show tSeq _ _ _ [some (.ref a), v1, v2, some x, v4, v5, none] H3
        refine law_ask (es := xLa5) (qs := [none, none, none, some D, none, none, none]) (.no (.no (.no (.yes rx (.no (.no (.no .nil))))))) rfl rfl (fun ds e => by cases e) (k1 _) rfl k3 t3 fun H4 x4 t4 => ⟨_, rfl, iteF ?_⟩
        refine law_ask (es := xLa4) (qs := [none, none, none, some D, none, none, none]) (.no (.no (.no (.yes (rx.ext x4) (.no (.no (.no .nil))))))) rfl rfl (fun ds e => by cases e; decide) (k1 _) rfl k3 t4 fun H5 x5 t5 => ⟨_, rfl, iteF ?_⟩
        refine law_ask (es := xLa3) (qs := [none, none, none, some D, none, none, none]) (.no (.no (.no (.yes ((rx.ext x4).ext x5) (.no (.no (.no .nil))))))) rfl rfl (fun ds e => by cases e; decide) (k1 _) rfl k3 t5 fun H6 x6 t6 => ⟨_, rfl, iteF ?_⟩
        exact hN _ _ ⟨_, _, _, _, _, rfl⟩ ((x4.trans x5).trans x6) t6
      · rintro σ' H3 ⟨v1, v2, v3, v4, v5, rfl⟩ x3 t3
        refine law_ask (es := xLa2) (qs := [none, none, none, none, none, none, none]) (kd := .web) (pd := .int 0) (.no (.no (.no (.no (.no (.no (.no .nil))))))) rfl rfl (fun ds e => by cases e; decide) (askIs_ok (by decide +kernel)) rfl (smallB_ok (by decide +kernel)) t3 fun H4 x4 t4 => ⟨_, rfl, iteF ?_⟩
        refine law_ask (es := xLa1) (qs := [none, none, none, none, none, none, none]) (kd := .web) (pd := .int 0) (.no (.no (.no (.no (.no (.no (.no .nil))))))) rfl rfl (fun ds e => by cases e; decide) (askIs_ok (by decide +kernel)) rfl (smallB_ok (by decide +kernel)) t4 fun H5 x5 t5 => ⟨_, rfl, iteF ?_⟩
        refine told_go (D := dL1) lokL1 rfl (fnl_t1 cP) t5 fun H6 x6 t6 => ?_
        refine ⟨rfl, false, by simp, iteF ?_⟩
        refine told_go (D := dL2) lokL2 rfl (fnl_t2 cP) t6 fun H7 x7 t7 => ?_
        refine ⟨rfl, ?_⟩
        rw [decide_eq_true rfl]
        exact q H7
end
end Un

set_option maxRecDepth 100000
/-! ### what the top has written; the theorem -/
set_option maxHeartbeats 8000000
namespace Un
open PySem PySem.Spec PyProof.Rows L2
def Ea2 (c w : Addr) : ErK → Addr
  | .cells => c
  | .web => w
  | _ => c
theorem all_mk {l : PySem.W.OpenLaw} {q : Program} {w : World} {K : PySem.W.Frag} {h : Heap} {mg : Str → Option Value} {fa : Addr} (X : K.In h) (G : h.Ns mainGlobals mg) (hfa : mg "law" = some (.ref fa))
    (d_is_whole : DefIn K "is_whole" s_is_whole)
    (d_is_cell : DefIn K "is_cell" s_is_cell)
    (d_is_exchange : DefIn K "is_exchange" s_is_exchange)
    (d_check_cells : DefInD K "check_cells" s_check_cells [.int 1, .int 16])
    (d_check_web : DefIn K "check_web" s_check_web)
    (d_pieces : DefIn K "pieces" s_pieces)
    (d_is_tree : DefIn K "is_tree" s_is_tree)
    (d_round_bounds : DefIn K "round_bounds" s_round_bounds)
    (d_bridges : DefIn K "bridges" s_bridges)
    (d_pieces_of : DefIn K "pieces_of" s_pieces_of)
    (d_names_and_joining : DefIn K "names_and_joining" s_names_and_joining)
    (d_l_draws : DefIn K "_law_draws" s_l_draws)
    (d_l_next : DefIn K "_law_next" s_l_next)
    (d_l_odd_webs : DefIn K "_law_odd_webs" s_l_odd_webs)
    (d_l_kept : DefIn K "_law_kept" s_l_kept)
    (z_int : PySem.W.nsIn K mainGlobals "int" = some none)
    (z_bool : PySem.W.nsIn K mainGlobals "bool" = some none)
    (z_tuple : PySem.W.nsIn K mainGlobals "tuple" = some none)
    (z_list : PySem.W.nsIn K mainGlobals "list" = some none)
    (z_isinstance : PySem.W.nsIn K mainGlobals "isinstance" = some none)
    (z_len : PySem.W.nsIn K mainGlobals "len" = some none)
    (z_enumerate : PySem.W.nsIn K mainGlobals "enumerate" = some none)
    (z_range : PySem.W.nsIn K mainGlobals "range" = some none)
    (z_min : PySem.W.nsIn K mainGlobals "min" = some none)
    (z_max : PySem.W.nsIn K mainGlobals "max" = some none)
    (z_sorted : PySem.W.nsIn K mainGlobals "sorted" = some none)
    (z_set : PySem.W.nsIn K mainGlobals "set" = some none)
    (z_repr : PySem.W.nsIn K mainGlobals "repr" = some none)
    (z_ValueError : PySem.W.nsIn K mainGlobals "ValueError" = some none)
    (z_LookupError : PySem.W.nsIn K mainGlobals "LookupError" = some none)
    {t_MOST_CELLS : Tok} (z_MOST_CELLS : PySem.W.nsIn K mainGlobals "MOST_CELLS" = some (some (.int 16 t_MOST_CELLS)))
    {c_l_all P_l_all : Addr} (d_l_all : DefInC K "_law_all" s_l_all c_l_all) (t_l_all : TabI q K ("_law_all", c_l_all, P_l_all))
    {c_law P_law : Addr} (d_law : DefInC K "law" s_law c_law) (t_law : TabI q K ("law", c_law, P_law))
    {C_InvalidCells : Addr} (e_InvalidCells : ErrIn K "InvalidCells" "InvalidCells.__init__" "cells" s_InvalidCells___init__ C_InvalidCells) (o_InvalidCells : OexC K C_InvalidCells)
    {C_InvalidWeb : Addr} (e_InvalidWeb : ErrIn K "InvalidWeb" "InvalidWeb.__init__" "index" s_InvalidWeb___init__ C_InvalidWeb) (o_InvalidWeb : OexC K C_InvalidWeb)
    (x_InvalidCells : PySem.W.exmAny K (.ref C_InvalidCells) [.ref C_InvalidCells, .ref C_InvalidWeb] = some true)
    (v_InvalidCells : PySem.W.kitOne K (.ref C_InvalidCells) (.type "ValueError") = some true)
    (c_InvalidCells : PySem.W.kitOne K (.ref C_InvalidCells) (.ref C_InvalidCells) = some true)
    (x_InvalidWeb : PySem.W.exmAny K (.ref C_InvalidWeb) [.ref C_InvalidCells, .ref C_InvalidWeb] = some true)
    (v_InvalidWeb : PySem.W.kitOne K (.ref C_InvalidWeb) (.type "ValueError") = some true)
    (c_InvalidWeb : PySem.W.kitOne K (.ref C_InvalidWeb) (.ref C_InvalidCells) = some false)
    (pne : P_l_all ≠ P_law)
    : ∃ (fd : FuncData) (ts : List (PySem.Str × Addr × Addr)) (sp : Sp), (∀ t ∈ ts, TabI q K t) ∧ (∀ (s : Shared) (v : Value), BindsTo s fd ⟨[v], []⟩ [("_law_script", v)]) ∧ (∀ (H : Hp) (a : Addr) (ns : List Int), ns.length ≤ 63 → (∀ t ∈ ts, H t.2.2 = some (.tbl #[])) → SqL K H a (ns.map V.int) → sp [.ref a] H (fun v _ => v = .bl true) E0) ∧ ∀ base : Heap, K.In base → base.Ns mainGlobals mg → (∀ t ∈ ts, LamX.TabB base mg t.2.1 t.2.2) → FnG l.prog w K mg base 13 fa fd ["_law_script"] sp := by
  obtain ⟨f_is_whole, fd_is_whole, F_is_whole, m_is_whole⟩ := d_is_whole.fn X G
  obtain ⟨f_is_cell, fd_is_cell, F_is_cell, m_is_cell⟩ := d_is_cell.fn X G
  obtain ⟨f_is_exchange, fd_is_exchange, F_is_exchange, m_is_exchange⟩ := d_is_exchange.fn X G
  obtain ⟨f_check_cells, fd_check_cells, F_check_cells, m_check_cells⟩ := d_check_cells.fn (fun h => nomatch h) X G
  obtain ⟨f_check_web, fd_check_web, F_check_web, m_check_web⟩ := d_check_web.fn X G
  obtain ⟨f_pieces, fd_pieces, F_pieces, m_pieces⟩ := d_pieces.fn X G
  obtain ⟨f_is_tree, fd_is_tree, F_is_tree, m_is_tree⟩ := d_is_tree.fn X G
  obtain ⟨f_round_bounds, fd_round_bounds, F_round_bounds, m_round_bounds⟩ := d_round_bounds.fn X G
  obtain ⟨f_bridges, fd_bridges, F_bridges, m_bridges⟩ := d_bridges.fn X G
  obtain ⟨f_pieces_of, fd_pieces_of, F_pieces_of, m_pieces_of⟩ := d_pieces_of.fn X G
  obtain ⟨f_names_and_joining, fd_names_and_joining, F_names_and_joining, m_names_and_joining⟩ := d_names_and_joining.fn X G
  obtain ⟨f_l_draws, fd_l_draws, F_l_draws, m_l_draws⟩ := d_l_draws.fn X G
  obtain ⟨f_l_next, fd_l_next, F_l_next, m_l_next⟩ := d_l_next.fn X G
  obtain ⟨f_l_odd_webs, fd_l_odd_webs, F_l_odd_webs, m_l_odd_webs⟩ := d_l_odd_webs.fn X G
  obtain ⟨f_l_kept, fd_l_kept, F_l_kept, m_l_kept⟩ := d_l_kept.fn X G
  have b_is_whole := F_is_whole.binds (ps := ["thing"]) fun _ _ _ _ _ _ us hl => match us, hl with | [_], _ => rfl
  have b_is_cell := F_is_cell.binds (ps := ["cells", "thing"]) fun _ _ _ _ _ _ us hl => match us, hl with | [_, _], _ => rfl
  have b_is_exchange := F_is_exchange.binds (ps := ["cells", "thing"]) fun _ _ _ _ _ _ us hl => match us, hl with | [_, _], _ => rfl
  have b_check_web := F_check_web.binds (ps := ["cells", "web"]) fun _ _ _ _ _ _ us hl => match us, hl with | [_, _], _ => rfl
  have b_pieces := F_pieces.binds (ps := ["cells", "web"]) fun _ _ _ _ _ _ us hl => match us, hl with | [_, _], _ => rfl
  have b_is_tree := F_is_tree.binds (ps := ["cells", "web"]) fun _ _ _ _ _ _ us hl => match us, hl with | [_, _], _ => rfl
  have b_round_bounds := F_round_bounds.binds (ps := ["cells", "web"]) fun _ _ _ _ _ _ us hl => match us, hl with | [_, _], _ => rfl
  have b_bridges := F_bridges.binds (ps := ["cells", "web"]) fun _ _ _ _ _ _ us hl => match us, hl with | [_, _], _ => rfl
  have b_pieces_of := F_pieces_of.binds (ps := ["cells", "web"]) fun _ _ _ _ _ _ us hl => match us, hl with | [_, _], _ => rfl
  have b_names_and_joining := F_names_and_joining.binds (ps := ["cells", "web"]) fun _ _ _ _ _ _ us hl => match us, hl with | [_, _], _ => rfl
  have b_l_draws := F_l_draws.binds (ps := ["_law_cell"]) fun _ _ _ _ _ _ us hl => match us, hl with | [_], _ => rfl
  have b_l_next := F_l_next.binds (ps := ["_law_draws_here"]) fun _ _ _ _ _ _ us hl => match us, hl with | [_], _ => rfl
  have b_l_odd_webs := F_l_odd_webs.binds (ps := ["_law_size"]) fun _ _ _ _ _ _ us hl => match us, hl with | [_], _ => rfl
  have b_l_kept := F_l_kept.binds (ps := ["_law_ask"]) fun _ _ _ _ _ _ us hl => match us, hl with | [_], _ => rfl
  obtain ⟨f_l_all, fd_l_all, F_l_all, m_l_all⟩ := d_l_all.fn X G
  have b_l_all := F_l_all.fn.binds (ps := ["_law_size", "_law_some", "_law_due"]) fun _ _ _ _ _ _ us hl => match us, hl with | [_, _, _], _ => rfl
  obtain ⟨f_law, fd_law, F_law, m_law⟩ := d_law.fn X G
  have b_law := F_law.fn.binds (ps := ["_law_script"]) fun _ _ _ _ _ _ us hl => match us, hl with | [_], _ => rfl
  obtain ⟨f_InvalidCells, fd_InvalidCells, F_InvalidCells, i_InvalidCells, j_InvalidCells⟩ := e_InvalidCells.me.fn
  have b_InvalidCells := F_InvalidCells.binds (ps := ["self", "cells"]) fun _ _ _ _ _ _ us hl => match us, hl with | [_, _], _ => rfl
  have mg_InvalidCells := PySem.W.mg_of X G e_InvalidCells.ns
  obtain ⟨f_InvalidWeb, fd_InvalidWeb, F_InvalidWeb, i_InvalidWeb, j_InvalidWeb⟩ := e_InvalidWeb.me.fn
  have b_InvalidWeb := F_InvalidWeb.binds (ps := ["self", "index"]) fun _ _ _ _ _ _ us hl => match us, hl with | [_, _], _ => rfl
  have mg_InvalidWeb := PySem.W.mg_of X G e_InvalidWeb.ns
  have e := hfa.symm.trans m_law
  cases e
  have T : Txt mg := ⟨PySem.W.mg_none_of X G z_int, PySem.W.mg_none_of X G z_bool, PySem.W.mg_none_of X G z_tuple, PySem.W.mg_none_of X G z_list, PySem.W.mg_none_of X G z_isinstance, PySem.W.mg_none_of X G z_len, PySem.W.mg_none_of X G z_enumerate, PySem.W.mg_none_of X G z_range, PySem.W.mg_none_of X G z_min, PySem.W.mg_none_of X G z_max, PySem.W.mg_none_of X G z_sorted, PySem.W.mg_none_of X G z_set, PySem.W.mg_none_of X G z_repr, ⟨_, PySem.W.mg_of X G z_MOST_CELLS, ⟨_, rfl⟩⟩⟩
  have bL : ∀ (s : Shared) (v : Value), BindsTo s fd_law ⟨[v], []⟩ [("_law_script", v)] := by
    obtain ⟨oc, od, kV, doc, pm, an, cdv, ct, osl, efd, lk, hcd⟩ := F_law.fn.ex
    subst efd
    exact fun s v => .of_eq rfl
  refine ⟨fd_law, [("_law_all", c_l_all, P_l_all), ("law", c_law, P_law)], spLawT [(P_l_all, qAl), (P_law, qL)] K, by first | exact List.forall_mem_singleton.mpr t_l_all | exact List.forall_mem_cons.mpr ⟨t_l_all, List.forall_mem_singleton.mpr t_law⟩, bL, fun H a ns hl hT hS => ⟨a, ns, rfl, hS, hl, fun p hp => by
      simp only [List.mem_cons, List.not_mem_nil, or_false] at hp
      rcases hp with rfl | rfl
      · exact LamX.TabS.nil (hT _ List.mem_cons_self)
      · exact LamX.TabS.nil (hT _ (List.mem_cons_of_mem _ List.mem_cons_self)), fun _ => rfl⟩, fun base _ _ TB => ?_⟩
  have TE : TxE mg := ⟨PySem.W.mg_none_of X G z_ValueError, PySem.W.mg_none_of X G z_LookupError⟩
  have E_cells := errC_v (ok := AnyV) mg_InvalidCells o_InvalidCells e_InvalidCells.ec e_InvalidCells.no i_InvalidCells (eq_of_beq j_InvalidCells) (ini_InvalidCells (P := l.prog) (w := w) (base := base) F_InvalidCells TE) b_InvalidCells (by decide +kernel)
  have E_web := errC_v (ok := IdxV) mg_InvalidWeb o_InvalidWeb e_InvalidWeb.ec e_InvalidWeb.no i_InvalidWeb (eq_of_beq j_InvalidWeb) (ini_InvalidWeb (P := l.prog) (w := w) (base := base) F_InvalidWeb TE) b_InvalidWeb (by decide +kernel)
  have c_whole := cal_of F_is_whole m_is_whole b_is_whole (okx_is_whole (P := l.prog) (w := w) (base := base) F_is_whole T)
  have c_cell := cal_of F_is_cell m_is_cell b_is_cell (okx_is_cell F_is_cell c_whole)
  have c_exch := cal_of F_is_exchange m_is_exchange b_is_exchange (okx_is_exchange F_is_exchange T c_cell)
  have TK : KpT K mg (Ea2 C_InvalidCells C_InvalidWeb) := {
    gc := mg_InvalidCells, gw := mg_InvalidWeb
    ec := fun kd h => match kd, h with | .cells, _ => e_InvalidCells.ec | .web, _ => e_InvalidWeb.ec
    nof := fun kd h => match kd, h with | .cells, _ => e_InvalidCells.no | .web, _ => e_InvalidWeb.no
    exm := fun kd h => match kd, h with | .cells, _ => x_InvalidCells | .web, _ => x_InvalidWeb
    isV := fun kd h => match kd, h with | .cells, _ => v_InvalidCells | .web, _ => v_InvalidWeb
    isC := fun kd h => match kd, h with | .cells, _ => c_InvalidCells | .web, _ => c_InvalidWeb }
  obtain ⟨db, hdb, bdb⟩ := binds_check_cells F_check_cells
  have c1 : CalX l.prog w K mg base 4 "check_cells" (spChkCellsX (Ea2 C_InvalidCells C_InvalidWeb .cells)) [.int 1, .int 16] := ⟨⟨_, _, _, db, okx_check_cells F_check_cells c_whole E_cells, m_check_cells, F_check_cells.kp, bdb, hdb⟩⟩
  have c2 : CalX l.prog w K mg base 5 "check_web" (spChkWebX (Ea2 C_InvalidCells C_InvalidWeb .web)) [] := ⟨⟨_, _, _, [], okx_check_web F_check_web T c_exch E_web, m_check_web, F_check_web.kp, b_check_web, .nil⟩⟩
  have cX1 : CalX l.prog w K mg base 6 "pieces" (spRefW (Ea2 C_InvalidCells C_InvalidWeb)) [] := ⟨⟨_, _, _, [], okx_pieces F_pieces c1 c2, m_pieces, F_pieces.kp, b_pieces, .nil⟩⟩
  have cX2 : CalX l.prog w K mg base 6 "is_tree" (spRefW (Ea2 C_InvalidCells C_InvalidWeb)) [] := ⟨⟨_, _, _, [], okx_is_tree F_is_tree c1 c2, m_is_tree, F_is_tree.kp, b_is_tree, .nil⟩⟩
  have cX3 : CalX l.prog w K mg base 6 "round_bounds" (spRefW (Ea2 C_InvalidCells C_InvalidWeb)) [] := ⟨⟨_, _, _, [], okx_round_bounds F_round_bounds c1 c2, m_round_bounds, F_round_bounds.kp, b_round_bounds, .nil⟩⟩
  have cX4 : CalX l.prog w K mg base 6 "bridges" (spRefW (Ea2 C_InvalidCells C_InvalidWeb)) [] := ⟨⟨_, _, _, [], okx_bridges F_bridges c1 c2, m_bridges, F_bridges.kp, b_bridges, .nil⟩⟩
  have c_nj := cal_of F_names_and_joining m_names_and_joining b_names_and_joining (ok_names_and_joining (P := l.prog) (w := w) (base := base) F_names_and_joining T)
  have c_po := cal_of F_pieces_of m_pieces_of b_pieces_of (ok_pieces_of F_pieces_of T c_nj)
  have cP : CalX l.prog w K mg base 6 "pieces" spPcOk [] := ⟨⟨_, _, _, [], okn_pieces (by decide) F_pieces c1 c2 c_po, m_pieces, F_pieces.kp, b_pieces, .nil⟩⟩
  have c_kp := calG_of F_l_kept m_l_kept b_l_kept (okg_l_kept (P := l.prog) (w := w) (base := base) (k := 7) F_l_kept T TE TK)
  have hTB1 := TB _ List.mem_cons_self
  have hTB2 := TB _ (List.mem_cons_of_mem _ List.mem_cons_self)
  have c_al := calG_of F_l_all.fn m_l_all b_l_all (okg_l_all (T := [(P_l_all, qAl), (P_law, qL)]) F_l_all hTB1 List.mem_cons_self (fun p hp e => by
    simp only [List.mem_cons, List.not_mem_nil, or_false] at hp
    rcases hp with rfl | rfl
    · rfl
    · exact (pne e.symm).elim) T c_kp cX1 cX2 cX3 cX4)
  have c_od := calG_of F_l_odd_webs m_l_odd_webs b_l_odd_webs (ok_l_odd_webs (P := l.prog) (w := w) (base := base) F_l_odd_webs T)
  have c_dr := cal_of F_l_draws m_l_draws b_l_draws (ok_draws (P := l.prog) (w := w) (base := base) F_l_draws T)
  have c_nx := cal_of F_l_next m_l_next b_l_next (ok_next (P := l.prog) (w := w) (base := base) F_l_next T)
  exact ok_law F_law hTB2 (List.mem_cons_of_mem _ List.mem_cons_self) (fun p hp e => by
    simp only [List.mem_cons, List.not_mem_nil, or_false] at hp
    rcases hp with rfl | rfl
    · exact (pne e).elim
    · rfl) T c_dr c_nx c_od c_kp c_al cP
end Un
open PySem PySem.W PyProof.Rows in
set_option maxRecDepth 100000 in
set_option maxHeartbeats 0 in
theorem PySem.Challenge.cw_unnoted_k03_what_webs_refuse_holds : PySem.Challenge.rw_unnoted_k03_what_webs_refuse.Holds := by
  w_on; o_law; k_head; (case hw => w_witness2)
  k_fill
  refine Un.walk_ofGT (l := PySem.Challenge.rw_unnoted_k03_what_webs_refuse) (n := 63) (k := 13) (x := "_law_script") rfl (by decide) rfl ⟨rfl, by decide, by decide⟩ (fun w h Y => PySem.W.km_in_of Y) ?F
  case F =>
    intro w mg fa h KX G hmg
    refine' Un.all_mk KX G hmg ?d_is_whole ?d_is_cell ?d_is_exchange ?d_check_cells ?d_check_web ?d_pieces ?d_is_tree ?d_round_bounds ?d_bridges ?d_pieces_of ?d_names_and_joining ?d_l_draws ?d_l_next ?d_l_odd_webs ?d_l_kept ?z_int ?z_bool ?z_tuple ?z_list ?z_isinstance ?z_len ?z_enumerate ?z_range ?z_min ?z_max ?z_sorted ?z_set ?z_repr ?z_ValueError ?z_LookupError ?z_MOST_CELLS ?d_l_all ?t_l_all ?d_law ?t_law ?e_InvalidCells ?o_InvalidCells ?e_InvalidWeb ?o_InvalidWeb ?x_InvalidCells ?v_InvalidCells ?c_InvalidCells ?x_InvalidWeb ?v_InvalidWeb ?c_InvalidWeb ?pne
    (case d_is_whole => (refine' Un.defIn_mk ?a ?l ?c ?k; (case a => k_is); (case l => k_is); (case c => k_is); (case k => k_is)))
    (case d_is_cell => (refine' Un.defIn_mk ?a ?l ?c ?k; (case a => k_is); (case l => k_is); (case c => k_is); (case k => k_is)))
    (case d_is_exchange => (refine' Un.defIn_mk ?a ?l ?c ?k; (case a => k_is); (case l => k_is); (case c => k_is); (case k => k_is)))
    (case d_check_cells => (refine' Un.defInD2_mk ?a ?l ?c ?k ?t; (case a => k_is); (case l => k_is); (case c => k_is); (case k => k_is); (case t => k_is)))
    (case d_check_web => (refine' Un.defIn_mk ?a ?l ?c ?k; (case a => k_is); (case l => k_is); (case c => k_is); (case k => k_is)))
    (case d_pieces => (refine' Un.defIn_mk ?a ?l ?c ?k; (case a => k_is); (case l => k_is); (case c => k_is); (case k => k_is)))
    (case d_is_tree => (refine' Un.defIn_mk ?a ?l ?c ?k; (case a => k_is); (case l => k_is); (case c => k_is); (case k => k_is)))
    (case d_round_bounds => (refine' Un.defIn_mk ?a ?l ?c ?k; (case a => k_is); (case l => k_is); (case c => k_is); (case k => k_is)))
    (case d_bridges => (refine' Un.defIn_mk ?a ?l ?c ?k; (case a => k_is); (case l => k_is); (case c => k_is); (case k => k_is)))
    (case d_pieces_of => (refine' Un.defIn_mk ?a ?l ?c ?k; (case a => k_is); (case l => k_is); (case c => k_is); (case k => k_is)))
    (case d_names_and_joining => (refine' Un.defIn_mk ?a ?l ?c ?k; (case a => k_is); (case l => k_is); (case c => k_is); (case k => k_is)))
    (case d_l_draws => (refine' Un.defIn_mk ?a ?l ?c ?k; (case a => k_is); (case l => k_is); (case c => k_is); (case k => k_is)))
    (case d_l_next => (refine' Un.defIn_mk ?a ?l ?c ?k; (case a => k_is); (case l => k_is); (case c => k_is); (case k => k_is)))
    (case d_l_odd_webs => (refine' Un.defIn_mk ?a ?l ?c ?k; (case a => k_is); (case l => k_is); (case c => k_is); (case k => k_is)))
    (case d_l_kept => (refine' Un.defIn_mk ?a ?l ?c ?k; (case a => k_is); (case l => k_is); (case c => k_is); (case k => k_is)))
    (case z_int => k_is)
    (case z_bool => k_is)
    (case z_tuple => k_is)
    (case z_list => k_is)
    (case z_isinstance => k_is)
    (case z_len => k_is)
    (case z_enumerate => k_is)
    (case z_range => k_is)
    (case z_min => k_is)
    (case z_max => k_is)
    (case z_sorted => k_is)
    (case z_set => k_is)
    (case z_repr => k_is)
    (case z_ValueError => k_is)
    (case z_LookupError => k_is)
    (case z_MOST_CELLS => k_is)
    (case d_l_all => (refine' Un.defInC_mk ?a ?l ?c ?k; (case a => k_is); (case l => k_is); (case c => k_is); (case k => k_is)))
    (case t_l_all => (refine' Un.tabI_mk ?a ?l ?yc ?l2 ?yv ?rc ?yd ?yn; (case a => k_is); (case l => k_is); (case yc => rfl); (case l2 => k_is); (case yv => rfl); (case rc => exact ⟨_, rfl⟩); (case yd => kernel_rfl); (case yn => kernel_rfl)))
    (case d_law => (refine' Un.defInC_mk ?a ?l ?c ?k; (case a => k_is); (case l => k_is); (case c => k_is); (case k => k_is)))
    (case t_law => (refine' Un.tabI_mk ?a ?l ?yc ?l2 ?yv ?rc ?yd ?yn; (case a => k_is); (case l => k_is); (case yc => rfl); (case l2 => k_is); (case yv => rfl); (case rc => exact ⟨_, rfl⟩); (case yd => kernel_rfl); (case yn => kernel_rfl)))
    (case e_InvalidCells => (refine' Un.errIn_mk ?ns ?hg ?hk ?hs ?hd ?ha ?hn ?ht ?hm ?no ?me; (case ns => k_is); (case hg => k_is); (case hk => k_is); (case hs => k_is); (case hd => k_is); (case ha => k_is); (case hn => k_is); (case ht => k_is); (case hm => k_is); (case no => k_is); (case me => (refine' Un.methIn_mk ?a ?i ?l ?c ?k; (case a => k_is); (case i => k_is); (case l => k_is); (case c => k_is); (case k => k_is)))))
    (case o_InvalidCells => (refine' Un.oexC_mk ?l ?rv ?sa ?ex ?ty ?kc; (case l => k_is); (case rv => kernel_rfl); (case sa => k_is); (case ex => k_is); (case ty => k_is); (case kc => k_is)))
    (case e_InvalidWeb => (refine' Un.errIn_mk ?ns ?hg ?hk ?hs ?hd ?ha ?hn ?ht ?hm ?no ?me; (case ns => k_is); (case hg => k_is); (case hk => k_is); (case hs => k_is); (case hd => k_is); (case ha => k_is); (case hn => k_is); (case ht => k_is); (case hm => k_is); (case no => k_is); (case me => (refine' Un.methIn_mk ?a ?i ?l ?c ?k; (case a => k_is); (case i => k_is); (case l => k_is); (case c => k_is); (case k => k_is)))))
    (case o_InvalidWeb => (refine' Un.oexC_mk ?l ?rv ?sa ?ex ?ty ?kc; (case l => k_is); (case rv => kernel_rfl); (case sa => k_is); (case ex => k_is); (case ty => k_is); (case kc => k_is)))
    (case x_InvalidCells => kts_exm)
    (case v_InvalidCells => kit_is)
    (case c_InvalidCells => kit_is)
    (case x_InvalidWeb => kts_exm)
    (case v_InvalidWeb => kit_is)
    (case c_InvalidWeb => kit_is)
    (case pne => decide)
