import PyProof.Rows.All
import Wide.All
import OpenK.AllK
import Wide.FinOn
import HandS.ForMost
import HandS.Codes
import HandS.Defaults
import HandS.TupSets
import HandS.IsInst
import HandS.Wide
import HandS.TupLe
import PyProof.ReprRoads
import PyProof.ReprBulk
import PyProof.EqLayable
import HandS.Conv
import HandS.SetFor
import HandS.Deep
import PySem.Challenge.RW_unnoted_k11_whole_orders_tell_the_ends
set_option Elab.async false
set_option linter.all false
set_option maxRecDepth 100000
set_option maxHeartbeats 4000000
namespace Un
open PySem PySem.Spec PyProof.Rows L2
/-! ### powers of great ints -/
def CPowB (i j : Int) : Prop := 0 ≤ j ∧ (Builtin.Int.intBits i : Int) * j ≤ 2 ^ 27
theorem op_powB {X : Cx} : OpR X (binaryOp .Pow) (rI CPowB fun i j => .int (i ^ j.toNat)) :=
  opI fun _ _ _ _ _ _ _ hc q => pow_int hc.1 hc.2 q
/-! ### repr of data -/
structure ReprOk (d : PyData) : Prop where
  sh : d.showable = true
  nd : d.hasDict = false
  dp : d.depth ≤ 60
  ln : d.shown.length ≤ sizeLine
def rReprD (K : PySem.W.Frag) : List V → Hp → VK → Prop := fun vs H Q => ∃ (a : Addr) (d : PyData), vs = [.ref a] ∧ Dp K H (.ref a) d ∧ ReprOk d ∧ Q (.str d.shown) H
theorem call_reprD {X : Cx} (hg : X.A.guards = some []) (hu : X.A.units + 64 < cLine) : CallR X (.builtin "repr") (rReprD X.K) := by
  intro pins s σ H vs us Q I r h
  obtain ⟨a, d, rfl, hd, ⟨h1, h2, h3, h4⟩, q⟩ := h
  obtain ⟨as, rd⟩ := Dp.reads I d _ (.ref a) hd rfl
  have e : us = [.ref a] := Vals.ref1 r
  subst e
  refine repr_of_reads' rd h1 (fun z => ?_) hg (by omega) (fun _ _ z => z) (fun h' u tk hk => ?_) h4
  · rw [h2] at z
    cases z
  · refine ⟨.str d.shown, H, ?_, ⟨u, rfl⟩, q⟩
    exact I.call (ch := []) (Un.kept hk) (I.hok.kept hk) I.bare (fun _ z => nomatch z)
/-! ### calls by keywords alone -/
/-- a def by its name, called by keywords alone; g orders the values -/
structure KCal (P : Program) (w : World) (K : PySem.W.Frag) (mg : Str → Option Value) (base : Heap) (k : Nat) (x : Str) (sp : Sp) (ks : List Str) (gV : List V → List V → List V) : Prop where
  ex : ∃ (f : Addr) (fd : FuncData) (ps : List Str) (g : List Value → List Value → List Value), FnOk P w K mg base CX0 k f fd ps sp ∧ mg x = some (.ref f) ∧ PySem.W.keepIn K (.ref f) = true ∧ KBn K fd ps 0 ks g gV
def tCallK0 (m : Nat) (sp : Sp) (gV : List V → List V → List V) (tk : TA) : TE := fun σ H Q => tk σ H fun zs H2 => zs.length = m ∧ sp (gV [] zs) H2 Q E0
theorem pe_kc {X : Cx} {j k : Nat} {x : Str} {sp : Sp} {ks : List Str} {gV : List V → List V → List V} {p pos : Pos} {kws : List Keyword} {tk : TA} (c : KCal X.prog X.w X.K X.mg X.base k x sp ks gV) (hr : Room j X.A) (hk : k ≤ j) (hg : Gl X x) (hkw : PK X kws tk)
    (hall : (backToKw pos (keywordEach kws X.env)).all (·.1.isSome) = true := by rfl) (hks : (backToKw pos (keywordEach kws X.env)).filterMap (·.1) = ks := by rfl) (hdb : (x == ("__debug__" : Str)) = false := by decide)
    (hpl : ((backTo pos (starEach [] X.env)).any (·.1) || (backToKw pos (keywordEach kws X.env)).any (·.1.isNone)) = false := by rfl) : PE X (.Call (.Name x p) [] kws pos) (tCallK0 ks.length sp gV tk) := by
  obtain ⟨f, fd, ps, g, F, hm, kp, hb⟩ := c.ex
  refine ⟨fun pins s σ H Q I h => wpAny_Call_Name_kw (ld_glob I hg hm ?_ hdb)⟩
  refine PySem.W.callWith_KW0 (h₀ := X.base) I.ok.mod.kin kp hall (thn (hkw.run pos pins s σ H _ I h) ?_) hpl
  rintro ws s2 ⟨zs, H2, I2, rz, l2, q2⟩
  refine ⟨I2.kIn, ?_⟩
  rw [hks]
  exact run_fnN (us := []) (vs := []) F (hr.mono hk) hb pass0 I2 .nil rz rfl l2 q2
/-! ### defs that lean on there being no guard around -/
structure FnG (P : Program) (w : World) (K : PySem.W.Frag) (mg : Str → Option Value) (base : Heap) (k : Nat) (f : Addr) (fd : FuncData) (ps : List Str) (sp : Sp) : Prop where
  len : ∀ vs H Q E, sp vs H Q E → vs.length = ps.length
  run : ∀ (A : Around) (outer : List Env) (s : Shared) (H : Hp) (args : Args) (us : List Value) (vs : List V) (Q : VK), A.guards = some [] → Room k A →
    Env0 P w K mg base A outer s H → BindsTo s fd args (ps.zip us) → Vals vs us → sp vs H Q E0 → codeAny (model P w) A (.call (.ref f) args) (CR CX0 outer P w H s Q E0) s
section
variable {P : Program} {w : World} {K : PySem.W.Frag} {mg : Str → Option Value} {base : Heap} {x qual : Str} {st : Stmt} {f : Addr} {fd : FuncData}
theorem fnG_ok {N ps : List Str} {k : Nat} {sp : Sp} (F : Fun K x qual st f fd) (S : FnScope N ps (defScope st)) (len : ∀ vs H Q E, sp vs H Q E → vs.length = ps.length)
    (body : ∀ (cdv : Value) (A : Around) (outer : List Env) (s : Shared) (H : Hp) (vs : List V) (Q : VK), A.guards = some [] → Room k (A.deeper (envOfC qual (defScope st) s.heap.objs.size f cdv)) → sp vs H Q E0 →
      ∃ t, PSs (cxOf CX0 P w K mg base N qual (defScope st) f cdv A outer s H E0).nox (defBody st) t ∧ t { nx := fun _ H' => Q .non H', rt := Q } (start N vs) H) : FnG P w K mg base (k + 1) f fd ps sp := by
  obtain ⟨oc, od, kV, doc, pm, an, cdv, ct, osl, efd, lk, hcd⟩ := F.ex
  subst efd
  refine ⟨len, ?_⟩
  intro A outer s H args us vs Q hg hr e0 hb r hsp
  have hl := len vs H Q E0 hsp
  have same : ∀ b o, base.get? b = some o → s.heap.get? b = some o := fun b o e => (e0.bs b o e).1
  have inK : K.In s.heap := e0.mod.kin.keeps same
  have nolim : s.heap.NoLimit := e0.mod.nolimit.keeps same
  refine codeAny_call_function hr.depth (inK _ _ lk) rfl S.co S.gen rfl (PySem.W.codeRec_of inK hcd) (hb _ _ _ _ ?_)
  refine wpAny_newFunctionEnv_cells S.kind ?_ ?_
  · rintro ⟨n, v⟩ hy
    rcases S.par n (List.of_mem_zip hy).1 with q | q
    · exact Or.inl q
    · exact Or.inr ⟨q, PySem.W.cellsFrom_some _ _ _ (Or.inl q)⟩
  · intro env he s1 x1
    subst he
    refine ⟨nolim.keeps x1.toInCall.keep, codeAny_func ?_⟩
    obtain ⟨t, ht, hq⟩ := body cdv A outer s H vs Q hg (hr.deeper _) hsp
    have I0 := inv_start (CX := CX0) (P := P) (w := w) (K := K) (mg := mg) (base := base) (E := E0) (cd := cdv) S hr.hd e0 hl r x1
    refine wpAny_mono (ht.nox.run [] s1 (start N vs) H _ I0 hq) ?_ (fun e s' hs => hs)
    rintro fl s' hs
    cases fl with
    | ret u =>
      obtain ⟨v, σ', H', J, rv, q⟩ := hs
      exact ⟨v, H', J.os, J.bare, J.base, J.hok, rv, q⟩
    | next =>
      obtain ⟨σ', H', J, q⟩ := hs
      exact ⟨.non, H', J.os, J.bare, J.base, J.hok, rfl, q⟩
    | brk =>
      obtain ⟨_, _, _, q⟩ := hs
      exact q.elim
    | cont =>
      obtain ⟨_, _, _, q⟩ := hs
      exact q.elim
end
/-- .. by its name -/
structure CalG (P : Program) (w : World) (K : PySem.W.Frag) (mg : Str → Option Value) (base : Heap) (k : Nat) (x : Str) (sp : Sp) : Prop where
  ex : ∃ (f : Addr) (fd : FuncData) (ps : List Str) (ds : List Value) (dvs : List V) (sp0 : Sp), FnG P w K mg base k f fd ps sp0 ∧ mg x = some (.ref f) ∧ PySem.W.keepIn K (.ref f) = true ∧ Binds K fd ps ds ∧ Vals dvs ds ∧ ∀ vs H Q, sp vs H Q E0 → sp0 (vs ++ dvs) H Q E0
theorem vals_app : ∀ {vs : List V} {us : List Value} {zs : List V} {ws : List Value}, Vals vs us → Vals zs ws → Vals (vs ++ zs) (us ++ ws)
  | _, _, _, _, .nil, r => r
  | _, _, _, _, .cons a t, r => .cons a (vals_app t r)
theorem pe_cG {X : Cx} {j k : Nat} {x : Str} {sp : Sp} {p pos : Pos} {e : Expr} {es : List Expr} {t : TA} (hgd : X.A.guards = some []) (c : CalG X.prog X.w X.K X.mg X.base k x sp) (hr : Room j X.A) (hk : k ≤ j) (hg : Gl X x) (ha : PA X (e :: es) t)
    (hdb : (x == ("__debug__" : Str)) = false := by decide) (he : starEach (e :: es) X.env = (false, eval e X.env) :: starEach es X.env := by rfl) (hpl : (backTo pos (starEach es X.env)).any (·.1) = false := by rfl) :
    PE X (.Call (.Name x p) (e :: es) [] pos) (tCall sp [] E0 t) := by
  obtain ⟨f, fd, ps, ds, dvs, sp0, F, hm, kp, hb, hv, hsp⟩ := c.ex
  refine ⟨fun pins s σ H Q I h => wpAny_Call_Name_kw (ld_glob I hg hm ?_ hdb)⟩
  refine PySem.W.callWith_K (h₀ := X.base) I.ok.mod.kin kp (thn (ha.run pos pins s σ H _ I h) ?_) he hpl
  rintro us s1 ⟨vs, H1, I1, r, q⟩
  refine ⟨I1.kIn, ?_⟩
  rw [List.append_nil] at q
  have q0 := hsp _ _ _ q
  have r0 := vals_app r hv
  have hl : (us ++ ds).length = ps.length := by
    rw [← r0.length]
    exact F.len _ _ _ _ q0
  have hb1 := hb s1 us I1.kIn hl
  refine wpAny_call (codeAny_mono (F.run X.A X.stack s1 H1 ⟨us, []⟩ (us ++ ds) (vs ++ dvs) Q hgd (hr.mono hk) I1.env0 hb1 r0 q0) ?_)
  intro rr s' hq
  cases rr with
  | error z => exact hq.elim
  | ok fl =>
    cases fl with
    | ret u => exact I1.after hq
    | next => exact hq.elim
    | brk => exact hq.elim
    | cont => exact hq.elim
end Un

set_option maxRecDepth 100000
set_option maxHeartbeats 4000000
namespace Un
open PySem PySem.Spec PyProof.Rows L2
/-! ### data that is shown and compared -/
structure Fine (D m : Nat) (d : PyData) : Prop where
  sh : d.showable = true
  nd : d.hasDict = false
  ly : d.canLay0 = true
  lv : d.leavesShort 13 = true
  dp : d.depth ≤ D
  bk : d.bulk ≤ m
theorem Fine.mono {D m D' m' : Nat} {d : PyData} (h : Fine D m d) (h1 : D ≤ D') (h2 : m ≤ m') : Fine D' m' d :=
  ⟨h.sh, h.nd, h.ly, h.lv, Nat.le_trans h.dp h1, Nat.le_trans h.bk h2⟩
theorem Fine.non : Fine 0 0 .none := ⟨rfl, rfl, rfl, rfl, Nat.le_refl _, Nat.le_refl _⟩
theorem Fine.bool (b : Bool) : Fine 0 0 (.bool b) := ⟨rfl, rfl, rfl, rfl, Nat.le_refl _, Nat.le_refl _⟩
theorem log_small {n : Nat} (h : n < 10 ^ 12) : n.log2 < 1920 := by
  by_cases e : n = 0
  · subst e
    decide
  · refine (Nat.log2_lt e).mpr (Nat.lt_trans h ?_)
    exact Nat.lt_of_lt_of_le (by decide : 10 ^ 12 < 2 ^ 40) (Nat.pow_le_pow_right (by decide) (by decide))
theorem Fine.int {i : Int} (h : i.natAbs < 10 ^ 12) : Fine 0 0 (.int i) := by
  refine ⟨?_, rfl, rfl, ?_, Nat.le_refl _, Nat.le_refl _⟩
  · simp only [PyData.showable, decide_eq_true_eq]
    exact log_small h
  · simp only [PyData.leavesShort, decide_eq_true_eq]
    exact PyData.shown_int_le h
theorem Fine.all {D m : Nat} : ∀ {ds : List PyData}, (∀ d ∈ ds, Fine D m d) →
    PyData.showableAll ds = true ∧ PyData.hasDictAll ds = false ∧ PyData.canLayAll0 ds = true ∧ PyData.leavesShortAll 13 ds = true ∧ PyData.depthAll ds ≤ D ∧ PyData.bulkAll ds ≤ ds.length * (m + 1)
  | [], _ => ⟨rfl, rfl, rfl, rfl, Nat.zero_le _, Nat.zero_le _⟩
  | d :: ds, h => by
    obtain ⟨a1, a2, a3, a4, a5, a6⟩ := Fine.all fun e he => h e (List.mem_cons_of_mem _ he)
    have f := h d List.mem_cons_self
    refine ⟨?_, ?_, ?_, ?_, ?_, ?_⟩
    · simp only [PyData.showableAll, f.sh, a1, Bool.and_self]
    · simp only [PyData.hasDictAll, f.nd, a2, Bool.or_self]
    · simp only [PyData.canLayAll0, f.ly, a3, Bool.and_self]
    · simp only [PyData.leavesShortAll, f.lv, a4, Bool.and_self]
    · simp only [PyData.depthAll]
      exact Nat.max_le.mpr ⟨f.dp, a5⟩
    · simp only [PyData.bulkAll, List.length_cons]
      have := f.bk
      rw [Nat.add_mul]
      omega
theorem Fine.list {D m L : Nat} {ds : List PyData} (h : ∀ d ∈ ds, Fine D m d) (hl : ds.length ≤ L) : Fine (D + 1) (L * (m + 1)) (.list ds) := by
  obtain ⟨a1, a2, a3, a4, a5, a6⟩ := Fine.all h
  refine ⟨?_, ?_, ?_, ?_, ?_, ?_⟩
  · simp only [PyData.showable, a1]
  · simp only [PyData.hasDict, a2]
  · simp only [PyData.canLay0, a3]
  · simp only [PyData.leavesShort, a4]
  · simp only [PyData.depth]
    omega
  · simp only [PyData.bulk]
    exact Nat.le_trans a6 (Nat.mul_le_mul_right _ hl)
theorem Fine.tuple {D m L : Nat} {ds : List PyData} (h : ∀ d ∈ ds, Fine D m d) (hl : ds.length ≤ L) : Fine (D + 1) (L * (m + 1)) (.tuple ds) := by
  obtain ⟨a1, a2, a3, a4, a5, a6⟩ := Fine.all h
  refine ⟨?_, ?_, ?_, ?_, ?_, ?_⟩
  · simp only [PyData.showable, a1]
  · simp only [PyData.hasDict, a2]
  · simp only [PyData.canLay0, a3]
  · simp only [PyData.leavesShort, a4]
  · simp only [PyData.depth]
    omega
  · simp only [PyData.bulk]
    exact Nat.le_trans a6 (Nat.mul_le_mul_right _ hl)
theorem Fine.len {D m : Nat} {d : PyData} (h : Fine D m d) (hm : m ≤ 2 ^ 20) : d.shown.length ≤ sizeLine :=
  PyData.shown_fits_bulk (B := 13) (by decide) (by decide) h.lv (Nat.le_trans h.bk hm)
theorem rOk {D m : Nat} {d : PyData} (h : Fine D m d) (hD : D ≤ 60 := by decide) (hm : m ≤ 2 ^ 20 := by decide) : ReprOk d := ⟨h.sh, h.nd, Nat.le_trans h.dp hD, h.len hm⟩
theorem Fine.shaped {D m : Nat} {d : PyData} (h : Fine D m d) (hD : D ≤ 60) : SeqAt.shaped d = true := by
  unfold SeqAt.shaped
  rw [h.ly, Bool.true_and, decide_eq_true_eq]
  exact Nat.le_trans h.dp (Nat.le_trans hD (by decide))
/-! ### the data of ints, pairs, lists of them -/
def dI (n : Int) : PyData := .int n
def dL (ns : List Int) : PyData := .list (ns.map .int)
def dLL (xss : List (List Int)) : PyData := .list (xss.map dL)
def dP (e : Int × Int) : PyData := .tuple [.int e.1, .int e.2]
def dW (es : List (Int × Int)) : PyData := .list (es.map dP)
def Sml (ns : List Int) : Prop := ∀ n ∈ ns, n.natAbs < 10 ^ 12
theorem fine_L {ns : List Int} (h : Sml ns) {L : Nat} (hl : ns.length ≤ L) : Fine 1 L (dL ns) := by
  have f := Fine.list (D := 0) (m := 0) (L := L) (ds := ns.map PyData.int) (fun d hd => by
    obtain ⟨n, hn, rfl⟩ := List.mem_map.mp hd
    exact Fine.int (h n hn)) (by rw [List.length_map]; exact hl)
  exact f.mono (Nat.le_refl _) (by omega)
theorem fine_LL {xss : List (List Int)} {L M : Nat} (h : ∀ xs ∈ xss, Sml xs ∧ xs.length ≤ L) (hl : xss.length ≤ M) : Fine 2 (M * (L + 1)) (dLL xss) :=
  Fine.list (fun d hd => by
    obtain ⟨xs, hx, rfl⟩ := List.mem_map.mp hd
    exact fine_L (h xs hx).1 (h xs hx).2) (by rw [List.length_map]; exact hl)
theorem fine_P {e : Int × Int} (h1 : e.1.natAbs < 10 ^ 12) (h2 : e.2.natAbs < 10 ^ 12) : Fine 1 2 (dP e) :=
  (Fine.tuple (D := 0) (m := 0) (L := 2) (ds := [.int e.1, .int e.2]) (fun d hd => by
    rcases List.mem_cons.mp hd with rfl | hd
    · exact Fine.int h1
    · rw [List.mem_singleton.mp hd]
      exact Fine.int h2) (Nat.le_refl _)).mono (Nat.le_refl _) (by omega)
theorem fine_W {es : List (Int × Int)} {L : Nat} (h : ∀ e ∈ es, e.1.natAbs < 10 ^ 12 ∧ e.2.natAbs < 10 ^ 12) (hl : es.length ≤ L) : Fine 2 (L * 3) (dW es) :=
  Fine.list (fun d hd => by
    obtain ⟨e, he, rfl⟩ := List.mem_map.mp hd
    exact fine_P (h e he).1 (h e he).2) (by rw [List.length_map]; exact hl)
/-! ### heaps -/
theorem same_upd {H : Hp} {p : Addr} {o : HO} (h : H p = none) : Same H (upd H p o) := fun b x e => by
  rw [upd_ne (ne_of_none e h)]
  exact e
theorem Same.mut {H H' : Hp} {p : Addr} {o : HO} (e : Same H H') (h : H p = none) : Same H (upd H' p o) := fun b x ha => by
  rw [upd_ne (ne_of_none ha h)]
  exact e b x ha
theorem Same.tup {K : PySem.W.Frag} {H H' : Hp} {a : Addr} {xs : List V} (e : Same H H') (h : SqT K H a xs) : SqT K H' a xs := by
  rcases h with (h | ⟨o, h⟩) | h
  · exact .inl (.inl (e _ _ h))
  · exact .inl (.inr ⟨o, e _ _ h⟩)
  · exact .inr h
theorem sqL_of {K : PySem.W.Frag} {H : Hp} {a : Addr} {xs : List V} (h : H a = some (.lst xs)) : SqL K H a xs := .inl (.inl h)
theorem sqT_of {K : PySem.W.Frag} {H : Hp} {a : Addr} {xs : List V} (h : H a = some (.tup xs)) : SqT K H a xs := .inl (.inl h)
/-- all that was tracked is as it was, but for the addresses in S -/
def SameBut (S : Addr → Prop) (H H' : Hp) : Prop := ∀ b o, ¬ S b → H b = some o → H' b = some o
theorem SameBut.refl (S : Addr → Prop) (H : Hp) : SameBut S H H := fun _ _ _ h => h
theorem SameBut.trans {S : Addr → Prop} {H H1 H2 : Hp} (a : SameBut S H H1) (b : SameBut S H1 H2) : SameBut S H H2 := fun c o n h => b c o n (a c o n h)
theorem Same.but {S : Addr → Prop} {H H' : Hp} (e : Same H H') : SameBut S H H' := fun b o _ h => e b o h
theorem SameBut.mut {S : Addr → Prop} {H H' : Hp} {p : Addr} {o : HO} (e : SameBut S H H') (h : S p) : SameBut S H (upd H' p o) := fun b x n ha => by
  have nb : b ≠ p := fun z => n (by rw [z]; exact h)
  rw [upd_ne nb]
  exact e b x n ha
theorem SameBut.new {S : Addr → Prop} {H H' : Hp} {p : Addr} {o : HO} (e : SameBut S H H') (h : H' p = none) : SameBut S H (upd H' p o) := fun b x n ha => by
  rw [upd_ne (ne_of_none (e b x n ha) h)]
  exact e b x n ha
theorem SameBut.all {S : Addr → Prop} {H H' : Hp} (e : SameBut S H H') (n : ∀ b, S b → H b = none) : Same H H' := fun b o h => e b o (fun z => by
  rw [n b z] at h
  cases h) h
/-! ### a web or log at a: a list of tuples of two ints -/
def Prs (H : Hp) (ts : List Addr) (es : List (Int × Int)) : Prop := Paired (fun t (e : Int × Int) => H t = some (.tup [.int e.1, .int e.2])) ts es
def WebAt (K : PySem.W.Frag) (H : Hp) (a : Addr) (es : List (Int × Int)) : Prop := ∃ ts : List Addr, SqL K H a (ts.map V.ref) ∧ Prs H ts es
theorem Prs.keep {H H' : Hp} (k : ∀ t xs, H t = some (.tup xs) → H' t = some (.tup xs)) : ∀ {ts : List Addr} {es : List (Int × Int)}, Prs H ts es → Prs H' ts es
  | _, _, .nil => .nil
  | _, _, .cons r t => .cons (k _ _ r) (Prs.keep k t)
theorem Prs.length {H : Hp} {ts : List Addr} {es : List (Int × Int)} (h : Prs H ts es) : ts.length = es.length := Paired.length h
theorem Prs.get {H : Hp} : ∀ {ts : List Addr} {es : List (Int × Int)} {i : Nat} {t : Addr}, Prs H ts es → ts[i]? = some t → ∃ e, es[i]? = some e ∧ H t = some (.tup [.int e.1, .int e.2])
  | _, _, _, _, .nil, h => by simp at h
  | _, _, 0, _, .cons r _, h => by
    simp at h
    subst h
    exact ⟨_, rfl, r⟩
  | _, _, i + 1, t, .cons _ q, h => by
    obtain ⟨e, h1, h2⟩ := Prs.get (i := i) q (by simpa using h)
    exact ⟨e, by simpa using h1, h2⟩
theorem Prs.append {H : Hp} : ∀ {ts us : List Addr} {es fs : List (Int × Int)}, Prs H ts es → Prs H us fs → Prs H (ts ++ us) (es ++ fs)
  | _, _, _, _, .nil, q => q
  | _, _, _, _, .cons r p, q => .cons r (Prs.append p q)
theorem WebAt.same {K : PySem.W.Frag} {H H' : Hp} {a : Addr} {es : List (Int × Int)} (h : WebAt K H a es) (s : Same H H') : WebAt K H' a es := by
  obtain ⟨ts, h1, h2⟩ := h
  exact ⟨ts, s.seq h1, h2.keep fun t xs e => s t _ e⟩
theorem dp_ints {K : PySem.W.Frag} {H : Hp} : ∀ ns : List Int, DpAll K H (ns.map V.int) (ns.map PyData.int)
  | [] => .nil
  | n :: r => .cons (.int n) (dp_ints r)
theorem dp_L {K : PySem.W.Frag} {H : Hp} {a : Addr} {ns : List Int} (h : SqL K H a (ns.map V.int)) : Dp K H (.ref a) (dL ns) := .lst h (dp_ints ns)
theorem dp_prs {K : PySem.W.Frag} {H : Hp} : ∀ {ts : List Addr} {es : List (Int × Int)}, Prs H ts es → DpAll K H (ts.map V.ref) (es.map dP)
  | _, _, .nil => .nil
  | _, _, .cons r t => .cons (.tup (sqT_of r) (.cons (.int _) (.cons (.int _) .nil))) (dp_prs t)
theorem WebAt.dp {K : PySem.W.Frag} {H : Hp} {a : Addr} {es : List (Int × Int)} (h : WebAt K H a es) : Dp K H (.ref a) (dW es) := by
  obtain ⟨ts, h1, h2⟩ := h
  exact .lst h1 (dp_prs h2)
/-! ### a list of lists of ints at p -/
def Rws (H : Hp) (as : List Addr) (xss : List (List Int)) : Prop := Paired (fun b (xs : List Int) => H b = some (.lst (xs.map V.int))) as xss
def LLAt (H : Hp) (p : Addr) (as : List Addr) (xss : List (List Int)) : Prop := H p = some (.lst (as.map V.ref)) ∧ Rws H as xss
theorem Rws.keep {H H' : Hp} : ∀ {as : List Addr} {xss : List (List Int)}, (∀ b ∈ as, ∀ o, H b = some o → H' b = some o) → Rws H as xss → Rws H' as xss
  | _, _, _, .nil => .nil
  | _, _, k, .cons r t => .cons (k _ List.mem_cons_self _ r) (Rws.keep (fun b hb => k b (List.mem_cons_of_mem _ hb)) t)
theorem Rws.length {H : Hp} {as : List Addr} {xss : List (List Int)} (h : Rws H as xss) : as.length = xss.length := Paired.length h
theorem Rws.get {H : Hp} : ∀ {as : List Addr} {xss : List (List Int)} {i : Nat} {b : Addr}, Rws H as xss → as[i]? = some b → ∃ xs, xss[i]? = some xs ∧ H b = some (.lst (xs.map V.int))
  | _, _, _, _, .nil, h => by simp at h
  | _, _, 0, _, .cons r _, h => by
    simp at h
    subst h
    exact ⟨_, rfl, r⟩
  | _, _, i + 1, t, .cons _ q, h => by
    obtain ⟨e, h1, h2⟩ := Rws.get (i := i) q (by simpa using h)
    exact ⟨e, by simpa using h1, h2⟩
theorem Rws.mem {H : Hp} {as : List Addr} {xss : List (List Int)} (h : Rws H as xss) {b : Addr} (hb : b ∈ as) : ∃ xs, xs ∈ xss ∧ H b = some (.lst (xs.map V.int)) := by
  obtain ⟨i, hi⟩ := List.getElem?_of_mem hb
  obtain ⟨xs, h1, h2⟩ := h.get hi
  exact ⟨xs, List.mem_of_getElem? h1, h2⟩
theorem Rws.append {H : Hp} : ∀ {ts us : List Addr} {es fs : List (List Int)}, Rws H ts es → Rws H us fs → Rws H (ts ++ us) (es ++ fs)
  | _, _, _, _, .nil, q => q
  | _, _, _, _, .cons r p, q => .cons r (Rws.append p q)
theorem dp_rws {K : PySem.W.Frag} {H : Hp} : ∀ {as : List Addr} {xss : List (List Int)}, Rws H as xss → DpAll K H (as.map V.ref) (xss.map dL)
  | _, _, .nil => .nil
  | _, _, .cons r t => .cons (dp_L (sqL_of r)) (dp_rws t)
theorem LLAt.dp {K : PySem.W.Frag} {H : Hp} {p : Addr} {as : List Addr} {xss : List (List Int)} (h : LLAt H p as xss) : Dp K H (.ref p) (dLL xss) := .lst (sqL_of h.1) (dp_rws h.2)
theorem LLAt.same {H H' : Hp} {p : Addr} {as : List Addr} {xss : List (List Int)} (h : LLAt H p as xss) (s : Same H H') : LLAt H' p as xss := ⟨s _ _ h.1, h.2.keep fun b _ o e => s b o e⟩
theorem LLAt.but {S : Addr → Prop} {H H' : Hp} {p : Addr} {as : List Addr} {xss : List (List Int)} (h : LLAt H p as xss) (s : SameBut S H H') (hp : ¬ S p) (ha : ∀ b ∈ as, ¬ S b) : LLAt H' p as xss :=
  ⟨s _ _ hp h.1, h.2.keep fun b hb o e => s b o (ha b hb) e⟩
/-! ### the end of the law -/
theorem walk_ofG {l : PySem.W.OpenLaw} {n k : Nat} {q : Program} {loose : List Str} {XP : (Str → Option Value) → Heap → Prop} {YP : World → Heap → Prop} {d : DefRec} {K : Params → PySem.W.Frag} {sp : PySem.W.Frag → Sp} {x : Str}
    (hn : l.most = some n) (hn2 : n ≤ sizeLine) (hdf : d.params.defaults = []) (hr : Room k callerA) (hY : ∀ (w : World) (h : Heap), YP w h → (K w.params).In h)
    (F : ∀ (w : World) (mg : Str → Option Value) (fa : Addr) (h : Heap), (K w.params).In h → h.Ns mainGlobals mg → mg d.name = some (.ref fa) → ∃ fd : FuncData, (∀ (s : Shared) (u : Value), BindsTo s fd ⟨[u], []⟩ [(x, u)]) ∧
      ∀ base : Heap, (K w.params).In base → base.Ns mainGlobals mg → FnG l.prog w (K w.params) mg base k fa fd [x] (sp (K w.params)))
    (hsp : ∀ (K : PySem.W.Frag) (H : Hp) (a : Addr) (ns : List Int), ns.length ≤ n → SqL K H a (ns.map V.int) → sp K [.ref a] H (fun v _ => v = .bl true) E0) :
    PySem.W.WalkO q loose XP YP l.row.toRowW d [] (fun f vs => PySem.call f vs) := by
  refine Att.attach_call hn hdf ?_
  intro w s0 s1 mg mb fa o pm cd doc a vs ns G Y ho hd hcd hmg hobj hints hlen hgens
  have inK := hY w _ Y
  obtain ⟨fd, hbind, hF⟩ := F w mg fa _ inK G.T.g hmg
  have hlen2 : ns.length ≤ sizeLine := Nat.le_trans hlen hn2
  have rv := vals_ints hints
  -- what an abstract heap must give
  have main : ∀ H : Hp, SqL (K w.params) H a (ns.map V.int) → HOk l.prog w H s1.heap → (∀ b, H b = none ∨ (b = a ∧ (K w.params).lookup a = none ∧ ∃ u, H b = some (.frz { cls := .type "list", data := .seq vs.toArray } u))) →
      codeAny (model l.prog w) callerA (.call (.ref fa) ⟨[.ref a], []⟩) (fun r s' => r = .ok (.ret (.bool true)) ∧ OldK s1.heap s'.heap ∧ s'.os = s1.os ∧ AllBare s'.gens) s1 := by
    intro H hS hok hH
    have dict0 : ∀ {b : Addr} {ob : Obj} {es : Array DictEntry} {ep : Nat}, s1.heap.get? b = some ob → ob.data = .dict es ep → H b = none := by
      intro b ob es ep e1 e2
      rcases hH b with z | ⟨rfl, _⟩
      · exact z
      · rw [hobj] at e1
        cases e1
        cases e2
    have ns0 : ∀ {b : Addr} {m : Str → Option Value}, s1.heap.Ns b m → (hidT s1.heap H).Ns b m := by
      rintro b m ⟨ob, es, ep, e1, e2, r⟩
      exact ⟨ob, es, ep, hidT_get e1 (dict0 e1 e2), e2, r⟩
    have k0 : (K w.params).In (hidT s1.heap H) := by
      intro b ob e
      refine hidT_get (inK b ob e) ?_
      rcases hH b with z | ⟨rfl, z, _⟩
      · exact z
      · rw [z] at e
        cases e
    obtain ⟨mc, l1, l2⟩ := G.T.nolimit
    have env0 : Env0 l.prog w (K w.params) mg (hidT s1.heap H) callerA [] s1 H :=
      ⟨rfl, ⟨k0, ns0 G.T.g, ⟨mb, ns0 G.T.b, G.T.builtins⟩, ⟨mc, ns0 l1, l2⟩⟩, fun b ob e => of_hidT e, Nat.le_of_eq (hidT_size _ _), trivial, fun b hb => (List.not_mem_nil hb).elim, hok, .of_eq hgens⟩
    have run := (hF _ k0 (ns0 G.T.g)).run callerA [] s1 H ⟨[.ref a], []⟩ [.ref a] [.ref a] (fun v _ => v = .bl true) rfl hr env0 (hbind s1 (.ref a)) (.cons rfl .nil) (hsp _ H a ns hlen hS)
    refine codeAny_mono run ?_
    intro r s' h
    cases r with
    | error e => exact h.elim
    | ok fl =>
      cases fl with
      | next => exact h.elim
      | brk => exact h.elim
      | cont => exact h.elim
      | ret u =>
        obtain ⟨v, H', os, bare, un, hok', rr, rfl⟩ := h
        have eu : u = Value.bool true := rr
        subst eu
        refine ⟨rfl, OldK.of_keep ?_, os, bare⟩
        intro b ob e
        rcases hH b with z | ⟨rfl, _, u, z⟩
        · exact un.keep b ob e z (fun t => (List.not_mem_nil t).elim) (fun t => (List.not_mem_nil t).elim)
        · have e2 := (hok' b _ (un.frzs b _ u z)).1
          have e1 := (hok b _ z).1
          rw [e] at e1
          cases e1
          exact e2
  cases hk : (K w.params).lookup a with
  | some ob =>
    have e := inK a ob hk
    rw [hobj] at e
    cases e
    refine main (fun _ => none) ?_ ?_ fun _ => .inl rfl
    · exact .inr ⟨_, vs.toArray, _, hk, rfl, rfl, rfl, by rw [List.size_toArray, hints.length]; exact hlen2, by simpa using rv⟩
    · intro b u z
      cases z
  | none =>
    refine main (fun b => if b = a then some (.frz { cls := .type "list", data := .seq vs.toArray } (.lst (ns.map V.int))) else none) ?_ ?_ ?_
    · exact .inl (.inr ⟨_, if_pos rfl⟩)
    · intro b u z
      have z' : (if b = a then some (HO.frz { cls := .type "list", data := .seq vs.toArray } (.lst (ns.map V.int))) else none) = some u := z
      split at z'
      · rename_i eb
        cases z'
        subst eb
        exact ⟨hobj, by rw [List.length_map]; exact hlen2, vs, _, rv, hobj⟩
      · cases z'
    · intro b
      by_cases eb : b = a
      · exact .inr ⟨eb, hk, _, if_pos eb⟩
      · exact .inl (if_neg eb)
end Un

set_option maxRecDepth 100000
set_option maxHeartbeats 4000000
namespace Un
open PySem PySem.Spec PyProof.Rows L2
/-- what len asks, by the written part -/
abbrev rLenK (K : PySem.W.Frag) : List V → Hp → VK → Prop := fun xs H Q => ∃ p ys, xs = [.ref p] ∧ (SqL K H p ys ∨ SqT K H p ys) ∧ Q (.int ys.length) H
/-! ### for i, x in enumerate(xs) -/
theorem for_enum {K : PySem.W.Frag} {a : Addr} {xs : List V} {g : TG} {tb : TS} {D : Ends} {σ : L2.St} {H : Hp} (Pv : Nat → L2.St → Hp → Prop) (h0 : Pv 0 σ H) (hl : ∀ i σ H, i ≤ xs.length → Pv i σ H → SqL K H a xs)
    (hs : ∀ i x T σ H, xs[i]? = some x → Pv i σ H → H T = none → g (.ref T) σ (upd H T (.tup [.int (i : Nat), x])) fun σ2 H2 => tb { D with nx := Pv (i + 1), ct := Pv (i + 1), bk := D.nx } σ2 H2)
    (hd : ∀ σ H, Pv xs.length σ H → D.nx σ H) : tFor (fun _ H R => R (Ite K a) H) g tb D σ H := by
  refine ⟨fun i m σ H => i + m = xs.length ∧ Pv i σ H, ⟨xs.length, Nat.zero_add _, h0⟩, ?_⟩
  rintro i m σ H ⟨em, p⟩
  have q := hl i σ H (by omega) p
  by_cases hi : i < xs.length
  · have e := List.getElem?_eq_getElem hi
    refine .inr ⟨⟨xs, _, q, e⟩, Pv (i + 1), fun σ' H' p' => ⟨m - 1, by omega, by omega, p'⟩, ?_⟩
    rintro v H' ⟨T, x, rfl, nT, rfl, f⟩
    exact hs i x T σ H (f xs q) p nT
  · have ei : i = xs.length := by omega
    subst ei
    exact .inl ⟨⟨xs, q, Nat.le_refl _⟩, hd σ H p⟩
theorem SameBut.mutN {S : Addr → Prop} {H H' : Hp} {p : Addr} {o : HO} (e : SameBut S H H') (h : H p = none) : SameBut S H (upd H' p o) := fun b x n ha => by
  rw [upd_ne (ne_of_none ha h)]
  exact e b x n ha
theorem SameBut.freshN {S : Addr → Prop} {H H' : Hp} {p : Addr} (e : SameBut S H H') (hS : ∀ b, S b → H' b ≠ none) (h : H' p = none) : H p = none := by
  cases q : H p with
  | none => rfl
  | some o =>
    by_cases z : S p
    · exact absurd h (hS p z)
    · rw [e p o z q] at h
      cases h
theorem Prs.upd {H : Hp} {ts : List Addr} {es : List (Int × Int)} {p : Addr} {o : HO} (h : Prs H ts es) (hp : ∀ xs, H p ≠ some (.tup xs)) : Prs (upd H p o) ts es :=
  h.keep fun t xs e => by
    have n : t ≠ p := fun z => hp xs (z ▸ e)
    rw [upd_ne n]
    exact e
theorem Prs.snoc {H : Hp} {ts : List Addr} {es : List (Int × Int)} {t : Addr} {e : Int × Int} (h : Prs H ts es) (ht : H t = some (.tup [.int e.1, .int e.2])) : Prs H (ts ++ [t]) (es ++ [e]) := h.append (.cons ht .nil)
theorem map_snoc {α β : Type} (f : α → β) (l : List α) (x : α) : (l ++ [x]).map f = l.map f ++ [f x] := by rw [List.map_append] <;> rfl
/-! ### tuples of two ints in their order -/
theorem le_pair (u v p q : Int) : Ob.lexAt (fun j => decide (([u, v] : List Int).getD j 0 = [p, q].getD j 0)) (fun j => decide (([u, v] : List Int).getD j 0 ≤ [p, q].getD j 0)) (decide (([u, v] : List Int).length ≤ [p, q].length)) 0
    (min ([u, v] : List Int).length [p, q].length) = decide (u < p ∨ (u = p ∧ v ≤ q)) := by
  have e : min ([u, v] : List Int).length [p, q].length = 2 := rfl
  rw [e]
  show (if decide (u = p) = true then (if decide (v = q) = true then decide (2 ≤ 2) else decide (v ≤ q)) else decide (u ≤ p)) = _
  by_cases h1 : u = p
  · subst h1
    rw [if_pos (by simp)]
    by_cases h2 : v = q
    · subst h2
      simp
    · rw [if_neg (by simp [h2])]
      simp
  · rw [if_neg (by simp [h1])]
    simp only [decide_eq_decide]
    omega
def Lt2 (a b : Int × Int) : Prop := a.1 < b.1 ∨ (a.1 = b.1 ∧ a.2 < b.2)
def Asc (es : List (Int × Int)) : Prop := es.Pairwise Lt2
def Inb (n : Int) (es : List (Int × Int)) : Prop := ∀ e ∈ es, 1 ≤ e.1 ∧ e.1 < e.2 ∧ e.2 ≤ n
theorem Asc.at {es : List (Int × Int)} (h : Asc es) {i j : Nat} {a b : Int × Int} (hij : i < j) (ha : es[i]? = some a) (hb : es[j]? = some b) : Lt2 a b := by
  obtain ⟨h1, rfl⟩ := List.getElem?_eq_some_iff.mp ha
  obtain ⟨h2, rfl⟩ := List.getElem?_eq_some_iff.mp hb
  exact List.pairwise_iff_getElem.mp h i j h1 h2 hij
theorem yes {σ : L2.St} {H : Hp} {A : Bool → Hp → Prop} (h : A true H) : tYes σ H A := h
/-- two ways that go on alike -/
theorem if_via {c : Prop} [Decidable c] {A B : VK → Prop} {Q : VK} (G : V → Hp → Prop) (key : ∀ v H', G v H' → Q v H') (hA : c → (∀ v H', G v H' → Q v H') → A Q) (hB : ¬ c → (∀ v H', G v H' → Q v H') → B Q) : if c then A Q else B Q := by
  by_cases h : c
  · rw [if_pos h]
    exact hA h key
  · rw [if_neg h]
    exact hB h key
/-- x and y as a value whose answer is known -/
theorem and_via {c : Bool} {A : VK → Prop} {Q : VK} {H : Hp} (fl : Bool) (key : Q (.bl fl) H) (hF : c = false → fl = false) (hA : c = true → Q (.bl fl) H → A Q) : if c = true then A Q else Q (.bl false) H := by
  cases c with
  | true => exact iteT (hA rfl key)
  | false =>
    rw [hF rfl] at key
    exact iteF key
theorem qT {p : Prop} [Decidable p] (h : p) : V.bl (decide p) = V.bl true := congrArg V.bl (decide_eq_true h)
theorem qF {p : Prop} [Decidable p] (h : ¬ p) : V.bl (decide p) = V.bl false := congrArg V.bl (decide_eq_false h)
end Un

set_option maxRecDepth 100000
set_option maxHeartbeats 4000000
namespace Un
open PySem PySem.Spec PyProof.Rows L2
/-! ### a def as it stands behind the top -/
def DefIn (K : PySem.W.Frag) (x : PySem.Str) (st : Stmt) : Prop := ∃ (f : Addr) (oc : Value) (od an : Option Addr) (kV doc pm cdv ct : Value) (osl : Array (Option Value)),
  PySem.W.nsIn K mainGlobals x = some (some (.ref f)) ∧ K.lookup f = some ⟨oc, od, .func (PySem.W.fnOf x x (defArgs st) (defBody st) (defScope st) .none kV doc pm an cdv ct), osl⟩ ∧ PySem.W.codeIn K cdv x = true ∧ PySem.W.keepIn K (.ref f) = true
theorem defIn_mk {K : PySem.W.Frag} {x : PySem.Str} {st : Stmt} {f : Addr} {oc : Value} {od an : Option Addr} {kV doc pm cdv ct : Value} {osl : Array (Option Value)} (a : PySem.W.nsIn K mainGlobals x = some (some (.ref f)))
    (l : K.lookup f = some ⟨oc, od, .func (PySem.W.fnOf x x (defArgs st) (defBody st) (defScope st) .none kV doc pm an cdv ct), osl⟩) (c : PySem.W.codeIn K cdv x = true) (k : PySem.W.keepIn K (.ref f) = true) : DefIn K x st := ⟨f, oc, od, an, kV, doc, pm, cdv, ct, osl, a, l, c, k⟩
theorem DefIn.fn {K : PySem.W.Frag} {x : PySem.Str} {st : Stmt} {h : Heap} {mg : PySem.Str → Option Value} (D : DefIn K x st) (X : K.In h) (G : h.Ns mainGlobals mg) : ∃ (f : Addr) (fd : FuncData), Fun K x x st f fd ∧ mg x = some (.ref f) := by
  obtain ⟨f, oc, od, an, kV, doc, pm, cdv, ct, osl, a, l, c, k⟩ := D
  exact ⟨f, _, fun_mk (st := st) l c k, PySem.W.mg_of X G a⟩
theorem cal_of {P : Program} {w : World} {K : PySem.W.Frag} {mg : PySem.Str → Option Value} {base : Heap} {k : Nat} {x : PySem.Str} {st : Stmt} {f : Addr} {fd : FuncData} {ps : List PySem.Str} {sp : Sp} (F : Fun K x x st f fd) (m : mg x = some (.ref f)) (b : Binds K fd ps []) (G : FnOk P w K mg base CX0 k f fd ps sp) :
    C8.Cal P w K mg base k x sp [] := ⟨⟨f, fd, ps, [], G, m, F.kp, b, .nil⟩⟩
theorem calG_of {P : Program} {w : World} {K : PySem.W.Frag} {mg : PySem.Str → Option Value} {base : Heap} {k : Nat} {x : PySem.Str} {st : Stmt} {f : Addr} {fd : FuncData} {ps : List PySem.Str} {sp : Sp} (F : Fun K x x st f fd) (m : mg x = some (.ref f)) (b : Binds K fd ps []) (G : FnG P w K mg base k f fd ps sp) :
    CalG P w K mg base k x sp := ⟨⟨f, fd, ps, [], [], sp, G, m, F.kp, b, .nil, fun vs H Q h => by rw [List.append_nil]; exact h⟩⟩
theorem kbn_of {K : PySem.W.Frag} {x : PySem.Str} {st : Stmt} {f : Addr} {fd : FuncData} {ps ks : List PySem.Str} (F : Fun K x x st f fd) (g : {α : Type} → List α → List α → List α)
    (hrel : ∀ {vs : List V} {us : List Value} {zs : List V} {ws : List Value}, Vals vs us → Vals zs ws → Vals (g vs zs) (g us ws))
    (h : ∀ (kV doc pm : Value) (an : Option Addr) (cdv ct : Value) (ws : List Value), ws.length = ks.length → bindArgs (PySem.W.fnOf x x (defArgs st) (defBody st) (defScope st) .none kV doc pm an cdv ct) ⟨[], ks.zip ws⟩ = pure (ps.zip (g [] ws))) : KBn K fd ps 0 ks g g := by
  obtain ⟨oc, od, kV, doc, pm, an, cdv, ct, osl, efd, lk, hcd⟩ := F.ex
  subst efd
  refine ⟨fun s us ws _ h0 h1 => ?_, hrel⟩
  cases us with
  | nil => exact .of_eq (h kV doc pm an cdv ct ws h1)
  | cons u us => cases h0
theorem kcal_of {P : Program} {w : World} {K : PySem.W.Frag} {mg : PySem.Str → Option Value} {base : Heap} {k : Nat} {x : PySem.Str} {st : Stmt} {f : Addr} {fd : FuncData} {ps ks : List PySem.Str} {sp : Sp} {gV : List V → List V → List V} {g : List Value → List Value → List Value} (F : Fun K x x st f fd) (m : mg x = some (.ref f)) (b : KBn K fd ps 0 ks g gV) (G : FnOk P w K mg base CX0 k f fd ps sp) :
    KCal P w K mg base k x sp ks gV := ⟨⟨f, fd, ps, g, G, m, F.kp, b⟩⟩
/-! ### a def with defaults -/
def DefInD (K : PySem.W.Frag) (x : PySem.Str) (st : Stmt) (dvs : List V) : Prop := ∃ (f T : Addr) (oc oc2 : Value) (od an od2 : Option Addr) (kV doc pm cdv ct : Value) (osl osl2 : Array (Option Value)) (its : List Value) (n : Nat),
  PySem.W.nsIn K mainGlobals x = some (some (.ref f)) ∧ K.lookup f = some ⟨oc, od, .func (PySem.W.fnOf x x (defArgs st) (defBody st) (defScope st) (.ref T) kV doc pm an cdv ct), osl⟩ ∧ PySem.W.codeIn K cdv x = true ∧ PySem.W.keepIn K (.ref f) = true ∧
  K.lookup T = some ⟨oc2, od2, .seq its.toArray n, osl2⟩ ∧ Vals dvs its
theorem defInD2_mk {K : PySem.W.Frag} {x : PySem.Str} {st : Stmt} {i j : Int} {t1 t2 : Tok} {f T : Addr} {oc oc2 : Value} {od an od2 : Option Addr} {kV doc pm cdv ct : Value} {osl osl2 : Array (Option Value)} {n : Nat} (a : PySem.W.nsIn K mainGlobals x = some (some (.ref f)))
    (l : K.lookup f = some ⟨oc, od, .func (PySem.W.fnOf x x (defArgs st) (defBody st) (defScope st) (.ref T) kV doc pm an cdv ct), osl⟩) (c : PySem.W.codeIn K cdv x = true) (k : PySem.W.keepIn K (.ref f) = true)
    (t : K.lookup T = some ⟨oc2, od2, .seq #[.int i t1, .int j t2] n, osl2⟩) : DefInD K x st [.int i, .int j] := ⟨f, T, oc, oc2, od, an, od2, kV, doc, pm, cdv, ct, osl, osl2, [.int i t1, .int j t2], n, a, l, c, k, t, .cons ⟨_, rfl⟩ (.cons ⟨_, rfl⟩ .nil)⟩
abbrev FunDD (K : PySem.W.Frag) (x : PySem.Str) (st : Stmt) (dvs : List V) (f : Addr) (fd : FuncData) : Prop := FunD K x x (defArgs st) (defBody st) (defScope st) dvs [] f fd
theorem DefInD.fn {K : PySem.W.Frag} {x : PySem.Str} {st : Stmt} {dvs : List V} {h : Heap} {mg : PySem.Str → Option Value} (D : DefInD K x st dvs) (hd : dvs ≠ []) (X : K.In h) (G : h.Ns mainGlobals mg) : ∃ (f : Addr) (fd : FuncData), FunDD K x st dvs f fd ∧ mg x = some (.ref f) := by
  obtain ⟨f, T, oc, oc2, od, an, od2, kV, doc, pm, cdv, ct, osl, osl2, its, n, a, l, c, k, t, v⟩ := D
  exact ⟨f, _, ⟨⟨oc, od, _, kV, doc, pm, an, cdv, ct, osl, rfl, l, c, .inr ⟨hd, T, _, its, n, rfl, t, rfl, v⟩, .inl rfl⟩, k⟩, PySem.W.mg_of X G a⟩
theorem cal_ofD {P : Program} {w : World} {K : PySem.W.Frag} {mg : PySem.Str → Option Value} {base : Heap} {k : Nat} {x : PySem.Str} {st : Stmt} {f : Addr} {fd : FuncData} {ps : List PySem.Str} {sp : Sp} {dvs dv0 : List V} (F : FunDD K x st dvs f fd) (m : mg x = some (.ref f)) (b : ∃ ds, Vals dv0 ds ∧ Binds K fd ps ds) (G : FnOk P w K mg base CX0 k f fd ps sp) :
    C8.Cal P w K mg base k x sp dv0 := by
  obtain ⟨ds, v, b⟩ := b
  exact ⟨⟨f, fd, ps, ds, G, m, F.kp, b, v⟩⟩
theorem calG_ofD {P : Program} {w : World} {K : PySem.W.Frag} {mg : PySem.Str → Option Value} {base : Heap} {k : Nat} {x : PySem.Str} {st : Stmt} {f : Addr} {fd : FuncData} {ps : List PySem.Str} {sp sp0 : Sp} {dvs dv0 : List V} (F : FunDD K x st dvs f fd) (m : mg x = some (.ref f)) (b : ∃ ds, Vals dv0 ds ∧ Binds K fd ps ds) (G : FnG P w K mg base k f fd ps sp0)
    (h : ∀ vs H Q, sp vs H Q E0 → sp0 (vs ++ dv0) H Q E0) : CalG P w K mg base k x sp := by
  obtain ⟨ds, v, b⟩ := b
  exact ⟨⟨f, fd, ps, ds, dv0, sp0, G, m, F.kp, b, v, h⟩⟩
def gSwap {α : Type} : List α → List α → List α := fun _ zs => match zs with
  | [a, b] => [b, a]
  | l => l
theorem gSwap_rel {vs : List V} {us : List Value} {zs : List V} {ws : List Value} (_ : Vals vs us) (r : Vals zs ws) : Vals (gSwap vs zs) (gSwap us ws) := by
  cases r with
  | nil => exact .nil
  | cons r1 r =>
    cases r with
    | nil => exact .cons r1 .nil
    | cons r2 r =>
      cases r with
      | nil => exact .cons r2 (.cons r1 .nil)
      | cons r3 r => exact .cons r1 (.cons r2 (.cons r3 r))
end Un

set_option maxRecDepth 100000
set_option maxHeartbeats 8000000
namespace Un
open PySem PySem.Spec PyProof.Rows L2
/-! ### sets of tuples of ints: made empty, asked for what is not in them, added to -/
section
variable {P : Program} {w : World} {A : Around} {E : Value → Shared → Prop} {s : Shared} {a : Addr} {L : List (Addr × List Int)} {es : Array (Int × Value)} {ep : Nat} {t : SetTable}
/-- the c-th look on the way of a hash -/
abbrev lookAt (m : Nat) (h : Int) (c : Nat) : SetTable.Probe := nth m (runAt m (SetTable.bits h % (m + 1)) (SetTable.bits h)) c
theorem lookAt_clean (m : Nat) (h : Int) (c : Nat) : (lookAt m h c).dummy = none := by
  have go : ∀ (n : Nat) (p : SetTable.Probe), p.dummy = none → (nth m p n).dummy = none := by
    intro n
    induction n with
    | zero => exact fun p e => e
    | succ n ih =>
      intro p e
      refine ih _ ?_
      unfold adv
      split
      · exact e
      · exact e
  exact go c _ rfl
theorem look_none (R : SetTR P w s.heap a L es ep t) {x : Addr} {k : List Int} (hx : IsT P w s.heap k x) (hu : A.units < cLine) (no : k ∉ L.map (·.2)) {N : Nat} (n1 : N < 10 * SetTable.turns t.mask)
    (n2 : way t.mask (thash P w k) N ∉ t.place.toList) (n3 : ∀ c, c < N → way t.mask (thash P w k) c ∈ t.place.toList) {Q : SetFound → Shared → Prop} (q : ∀ j, Q (.free j false) s) :
    ∀ (fuel c : Nat) (stand : Option SetTable.Probe), stand.getD (t.probeStart (thash P w k)) = lookAt t.mask (thash P w k) c → c ≤ N → N < fuel + c → wpAny (model P w) A (setSearchFrom a (.ref x) (thash P w k) false fuel stand) Q E s := by
  intro fuel
  induction fuel with
  | zero =>
    intro c stand _ h1 h2
    omega
  | succ fuel ih =>
    intro c stand est hc hf
    obtain ⟨o, ho, hex, hd⟩ := R.ob
    rw [setSearchFrom_succ]
    refine wpAny_bind (wpAny_setState_of ho hd R.fits ?_)
    dsimp only
    refine wp_if_neg R.gw ?_
    try refine wpAny_bind (wpAny_pure ?_)
    have shift : ∀ d, nth t.mask (lookAt t.mask (thash P w k) c) d = lookAt t.mask (thash P w k) (c + d) := fun d => (nth_add t.mask c _ d).symm
    have shiftj : ∀ d, (nth t.mask (lookAt t.mask (thash P w k) c) d).j = way t.mask (thash P w k) (c + d) := fun d => by rw [shift d]
    have g := go_spec t R.tab.ris R.tab.dm (fun i => (es[i]?.map (·.1)).getD 0) (thash P w k) (10 * SetTable.turns t.mask) (N - c) (lookAt t.mask (thash P w k) c) (lookAt_clean _ _ _) (by omega)
      (fun d hd' => by
        rw [shiftj]
        exact n3 (c + d) (by omega)) (by
        rw [shiftj, Nat.add_sub_cancel' hc]
        exact n2)
    rcases g with ⟨d, i, d1, d2, _, _, d5⟩ | ⟨_, g2⟩
    · -- another tuple of this hash
      rw [shift d, shift (d + 1)] at d5
      rw [shiftj d] at d2
      have e5 : t.probe (fun i => (es[i]?.map (·.1)).getD 0) (thash P w k) (stand.getD (t.probeStart (thash P w k))) = some (.candidate (lookAt t.mask (thash P w k) (c + d)).j i (lookAt t.mask (thash P w k) (c + (d + 1)))) := by
        rw [est]
        exact d5
      rw [e5]
      dsimp only
      have il : i < L.length := by
        have z1 := (List.getElem?_eq_some_iff.mp d2).1
        have z2 := R.tab.sz
        rw [List.length_map] at z2
        rw [Array.length_toList] at z1
        omega
      obtain ⟨p, hp⟩ : ∃ p, L[i]? = some p := ⟨_, List.getElem?_eq_getElem il⟩
      have pm : p ∈ L := List.mem_of_getElem? hp
      have pk : ¬ p.2 = k := fun z => no (List.mem_map.mpr ⟨p, pm, z⟩)
      have onward : wpAny (model P w) A (searchRest a (.ref x) (thash P w k) false fuel es t (lookAt t.mask (thash P w k) (c + d)).j i (lookAt t.mask (thash P w k) (c + (d + 1)))) Q E s := by
        unfold searchRest
        rw [R.entry hp]
        dsimp only
        refine wpAny_bind (wpAny_holding (wpAny_eqBool_tuple hu (R.tup p pm) hx ?_))
        refine wpAny_bind (wpAny_setState_of ho hd R.fits ?_)
        dsimp only
        refine wp_if_neg (by simp) ?_
        try refine wpAny_bind (wpAny_pure ?_)
        rw [sameMem]
        dsimp only
        have live : t.slot (lookAt t.mask (thash P w k) (c + d)).j = .live i := slot_live R.tab.ris d2
        simp only [if_true, live, R.entry hp]
        refine wpAny_bind (wpAny_isSame_ref_self (wpAny_bind (wpAny_pure ?_)))
        simp only [if_true]
        refine wp_if_neg (by simp [pk]) ?_
        exact ih (c + (d + 1)) _ rfl (by omega) (by omega)
      by_cases led : t.led = true
      · refine wp_if_neg (by simp [led]) ?_
        try refine wpAny_bind (wpAny_pure ?_)
        exact onward
      · refine wp_if_pos (by simp [led]) ?_
        refine wpAny_bind (seen_tup hx ?_ ?_)
        · intro y hy
          obtain ⟨en, he, ee⟩ := List.mem_map.mp hy
          have he2 : en ∈ es.toList := by
            have z : en ∈ es ∧ en.1 = thash P w k := by simpa using he
            simpa using z.1
          rw [R.rows] at he2
          obtain ⟨p2, hp2, e2⟩ := List.mem_map.mp he2
          exact ⟨p2.2, p2.1, by rw [← ee, ← e2], R.tup p2 hp2⟩
        · refine wp_if_neg (by decide) ?_
          try refine wpAny_bind (wpAny_pure ?_)
          exact onward
    · have e5 : t.probe (fun i => (es[i]?.map (·.1)).getD 0) (thash P w k) (stand.getD (t.probeStart (thash P w k))) = some (.empty (nth t.mask (lookAt t.mask (thash P w k) c) (N - c)).j none) := by
        rw [est]
        exact g2
      rw [e5]
      dsimp only
      exact wpAny_pure (q _)
/-- x in the set: it is not -/
theorem tup_notIn (R : SetTR P w s.heap a L es ep t) {x : Addr} {k : List Int} (hx : IsT P w s.heap k x) (hu : A.units + 3 < cLine) (no : k ∉ L.map (·.2)) {Q : Value → Shared → Prop} (q : ∀ tk, Q (.bool false) { s with toks := tk }) :
    wpAny (model P w) A (compareOp .In (.ref x) (.ref a)) Q E s := by
  obtain ⟨o, ho, hex, hd⟩ := R.ob
  have hT : s.TypeIs (.ref a) "set" := ⟨o, ho, hex.1⟩
  show wpAny _ _ (do return .bool (← contains (.ref a) (.ref x))) Q E s
  refine wpAny_bind ?_
  unfold contains
  try with_reducible refine wpAny_holding ?_
  refine wpAny_bind (wpAny_specialOf hT F.slot_set_contains.lookup ?_)
  show wpAny _ _ (if (some (Value.builtin "set.__contains__") == some Value.none) = true then _ else _) _ E s
  rw [if_neg (by rw [beq_builtin_none]; exact Bool.false_ne_true)]
  refine wpAny_bind (wpAny_callSpecialUnlessNone?_slot (name := PySem.Str.ofString "__contains__") hT F.slot_set_contains (wpAny_call_entry F.slot_set_contains hT entry_set_contains ?_ (F.args_set_contains_2 _ _)))
  unfold Builtin.«frozenset.__contains__» Builtin.Frozenset.oneOther
  simp only [List.isEmpty_nil, bind_assoc]
  unfold Builtin.Frozenset.addrOf Builtin.Frozenset.withSetAsKey setContains
  refine wpAny_bind (wpAny_pure ?_)
  try dsimp only
  refine wpAny_bind (wpAny_pure ?_)
  try dsimp only
  refine wpAny_bind (wpAny_tryCatch ?_)
  refine wpAny_holding ?_
  refine wpAny_bind (wpAny_pyHash_tuple ?hu1 hx ?_)
  case hu1 =>
    show A.units + 1 < cLine
    omega
  have R2 : SetTR P w s.heap a L es ep t := R
  refine wpAny_bind ?_
  unfold setFind
  rw [show (100000 : Nat) = 99999 + 1 from rfl]
  unfold setFindIn
  refine wpAny_bind (wpAny_setState_of ho hd R.fits ?_)
  dsimp only
  refine wp_if_neg (by simp [byScan, Value.scannable]) ?_
  try refine wpAny_bind (wpAny_pure ?_)
  have room := R.room
  obtain ⟨N, m1, m2, m3⟩ := R.tab.first (by rw [List.length_map]; omega) (thash P w k)
  have big : N < 100000 := by
    have z : 10 * SetTable.turns t.mask ≤ 1420 := by
      unfold SetTable.turns
      rcases R.tab.mok with e | e | e <;> omega
    omega
  unfold setSearch
  refine wpAny_bind (look_none (ep := ep) (es := es) (t := t) ?R1 ?hx1 ?hu2 no m1 m2 m3 (fun j => ?_) 100000 0 none rfl (Nat.zero_le _) (by omega))
  case R1 => exact R
  case hx1 => exact hx
  case hu2 =>
    show A.units + 1 < cLine
    omega
  try dsimp only
  refine wpAny_pure ?_
  try dsimp only
  refine wpAny_pure ?_
  show wpAny _ _ (ret (Value.bool false)) _ _ _
  exact wpAny_pure ⟨_, rfl, wpAny_truthy_bool (wpAny_pure (q _))⟩
/-- set.add, the tuple is new -/
theorem tup_add (R : SetTR P w s.heap a L es ep t) {x : Addr} {k : List Int} (hx : IsT P w s.heap k x) (hu : A.units + 3 < cLine) (few : L.length + 1 < 64) (no : k ∉ L.map (·.2)) {Q : Value → Shared → Prop}
    (q : ∀ h' L' es' ep' t' tk, Heap.SameBut a s.heap h' → SetTR P w h' a L' es' ep' t' → L'.Perm ((x, k) :: L) → Q .none { s with heap := h', toks := tk }) : wpAny (model P w) A (call (.builtin "set.add") [.ref a, .ref x]) Q E s := by
  obtain ⟨o, ho, hex, hd⟩ := R.ob
  have hT : s.TypeIs (.ref a) "set" := ⟨o, ho, hex.1⟩
  refine wpAny_call_entry F.slot_set_add hT F.entry_set_add ?_ (F.args_set_add_2 _ _)
  unfold Builtin.«set.add» Builtin.Frozenset.oneOther
  simp only [List.isEmpty_nil, bind_assoc]
  unfold Builtin.Frozenset.addrOf setAdd
  refine wpAny_bind (wpAny_pure ?_)
  try dsimp only
  refine wpAny_bind (wpAny_pure ?_)
  try dsimp only
  refine wpAny_bind ?_
  refine wpAny_holding ?_
  refine wpAny_bind (wpAny_pyHash_tuple ?hu1 hx ?_)
  case hu1 =>
    show A.units + 1 < cLine
    omega
  refine add_at (ep := ep) (es := es) (t := t) ?R1 ?hx1 ?hu2 few fun b h' L' es' ep' t' sb R' _ pm => ?_
  case R1 => exact R
  case hx1 => exact hx
  case hu2 =>
    show A.units + 1 < cLine
    omega
  show wpAny _ _ (ret Value.none) _ _ _
  exact wpAny_pure ⟨_, rfl, q h' L' es' ep' t' _ sb R' (pm no)⟩
end
/-! ### the same over the layer -/
section
variable {X : Cx}
def rSet0T (P : Program) (w : World) : List V → Hp → VK → Prop := fun xs H Q => xs = [] ∧ ∀ p, H p = none → Q (.ref p) (upd H p (SetTO P w p []))
theorem cr_set0T : CallR X (.type "set") (rSet0T X.prog X.w) := by
  intro pins s σ H xs us Q I r h
  obtain ⟨rfl, q⟩ := h
  cases r
  refine setR_new fun _ => ?_
  refine ⟨.ref s.heap.objs.size, upd H s.heap.objs.size (SetTO X.prog X.w s.heap.objs.size []), ?_, rfl, q _ (I.hok.fresh (Nat.le_refl _))⟩
  exact I.laid (t' := s.toks) (fun b u e => Heap.get?_push_of_some _ e) (Nat.le_refl _) (setTO_new (setTR_fresh (Heap.get?_push_size _ rfl)).t0)
/-- x in the set of the tuples of L: it is not -/
def rTIn (K : PySem.W.Frag) (P : Program) (w : World) : R2 := fun x y H Q => ∃ (b a : Addr) (k : List Int) (L : List (Addr × List Int)), x = .ref b ∧ y = .ref a ∧ SqT K H b (k.map V.int) ∧ H a = some (SetTO P w a L) ∧ (∀ p ∈ L, SqT K H p.1 (p.2.map V.int)) ∧
  k ∉ L.map (·.2) ∧ Q (.bl false) H
theorem or_tIn (hu : X.A.units + 3 < cLine) : OpR X (compareOp .In) (rTIn X.K X.prog X.w) := by
  intro pins s σ H x y v u Q I rx ry h
  obtain ⟨b, a, k, L, rfl, rfl, hb, ha, hL, no, q⟩ := h
  cases rx
  cases ry
  have R0 : SetT0 X.prog X.w s.heap a L := (I.hok a _ ha).1
  obtain ⟨es, ep, t, R⟩ := R0.full fun p hp => I.isT (hL p hp)
  exact tup_notIn R (I.isT hb) hu no fun tk => ⟨.bl false, H, I.tok tk, rfl, q⟩
/-- set.add of a tuple that is not there -/
def rTAdd (K : PySem.W.Frag) (P : Program) (w : World) : V → List V → Hp → VK → Prop := fun x xs H Q => ∃ (a b : Addr) (k : List Int) (L : List (Addr × List Int)), x = .ref a ∧ xs = [.ref b] ∧ SqT K H b (k.map V.int) ∧ H a = some (SetTO P w a L) ∧
  (∀ p ∈ L, SqT K H p.1 (p.2.map V.int)) ∧ L.length + 1 < 64 ∧ k ∉ L.map (·.2) ∧ ∀ L' : List (Addr × List Int), L'.Perm ((b, k) :: L) → Q .non (upd H a (SetTO P w a L'))
theorem mt_tAdd (hu : X.A.units + 3 < cLine) : MtR X "set.add" (rTAdd X.K X.prog X.w) := by
  intro pins s σ H x xs v us Q I rx rxs h
  obtain ⟨a, b, k, L, rfl, rfl, hb, ha, hL, few, no, q⟩ := h
  cases rx
  rw [Vals.ref1 rxs]
  have R0 : SetT0 X.prog X.w s.heap a L := (I.hok a _ ha).1
  obtain ⟨es, ep, t, R⟩ := R0.full fun p hp => I.isT (hL p hp)
  refine tup_add R (I.isT hb) hu few no fun h' L' es' ep' t' tk sb R' pm => ?_
  have he : ∃ u, h'.get? a = some u := by
    obtain ⟨o, ho, _⟩ := R'.ob
    exact ⟨o, ho⟩
  exact ⟨.non, upd H a (SetTO X.prog X.w a L'), I.write (e := a) (t' := tk) (by rw [ha]; trivial) (.inl rfl) (fun b u nb hu => (sb.2 b nb).trans hu) he (setTO_new R'.t0), rfl, q L' pm⟩
def tTAdd (K : PySem.W.Frag) (P : Program) (w : World) (to : TE) (t : TA) : TE := fun σ H Q => to σ H fun x H1 => (∃ a L, x = V.ref a ∧ H1 a = some (SetTO P w a L)) ∧ t σ H1 fun xs H2 => rTAdd K P w x xs H2 Q
theorem pe_tAdd {o e : Expr} {es : List Expr} {to : TE} {t : TA} {apos cpos : Pos} (hu : X.A.units + 3 < cLine) (ho : PE X o to) (ha : PA X (e :: es) t) (hbase : attributeBase o "add" X.env (eval o X.env) = eval o X.env := by rfl)
    (hfew : ((backTo cpos (starEach (e :: es) X.env)).all (fun x => !x.1) && (backToKw cpos (keywordEach [] X.env)).all (fun x => x.1.isSome) &&
      decide ((e :: es).length + ([] : List Keyword).length + (if ([] : List Keyword).isEmpty then 0 else 1) < 30)) = true := by rfl) (hline : (apos.endLine == cpos.line) = true := by rfl)
    (hs : starEach (e :: es) X.env = (false, eval e X.env) :: starEach es X.env := by rfl) (hplain : (backTo cpos (starEach es X.env)).any (·.1) = false := by rfl) : PE X (.Call (.Attribute o "add" apos) (e :: es) [] cpos) (tTAdd X.K X.prog X.w to t) := by
  refine ⟨fun pins s σ H Q I h => ?_⟩
  refine wpAny_Call_method_late hbase hfew hline rfl (thn (ho.run pins s σ H _ I h) ?_)
  rintro v s1 ⟨x, H1, I1, r1, ⟨a, L, rfl, hka⟩, q1⟩
  have R0 : SetT0 X.prog X.w s1.heap a L := (I1.hok a _ hka).1
  obtain ⟨_, _, _, ⟨o, ho1, hex, _⟩, _⟩ := R0.ex
  cases r1
  refine ⟨"set", "set.add", F.plainAttrs_set, F.slot_set_add, F.type_set_add, ⟨o, ho1, hex.1⟩, ?_, ?_⟩
  · intro b eb
    cases eb
    exact ⟨o, ho1, hex.2.1⟩
  · have hA := ha.run cpos pins s1 σ H1 _ I1 q1
    rw [hs] at hA ⊢
    refine Calls.callWith_builtin (by show (false || (backTo cpos (starEach es X.env)).any (·.1)) = false; rw [hplain] <;> rfl) (Calls.evalArgs_plain ?_)
    refine thn hA ?_
    rintro us s2 ⟨vs, H2, I2, r2, q2⟩
    exact mt_tAdd hu pins s2 σ H2 (.ref a) vs (.ref a) us Q I2 rfl r2 q2
/-! ### xs.count(None) -/
def nonB : Value → Bool
  | .none => true
  | _ => false
theorem cnt_vals : ∀ {ys : List V} {us : List Value}, Vals ys us → (∀ y ∈ ys, y = .non ∨ ∃ i, y = .int i) → us.countP nonB = ys.countP isNon ∧ ∀ (A : Around) (s : Shared), ∀ u ∈ us, SeqAt.EqAt A s u .none (nonB u)
  | _, _, .nil, _ => ⟨rfl, fun _ _ u hu => (List.not_mem_nil hu).elim⟩
  | y :: ys, u :: us, .cons r t, f => by
    obtain ⟨h1, h2⟩ := cnt_vals t fun z hz => f z (List.mem_cons_of_mem _ hz)
    rcases f y List.mem_cons_self with rfl | ⟨i, rfl⟩
    · cases r
      refine ⟨by rw [List.countP_cons, List.countP_cons, h1] <;> rfl, fun A s v hv => ?_⟩
      rcases List.mem_cons.mp hv with rfl | hv
      · exact SeqAt.EqAt.same _
      · exact h2 A s v hv
    · obtain ⟨tk, rfl⟩ := r
      refine ⟨by rw [List.countP_cons, List.countP_cons, h1] <;> rfl, fun A s v hv => ?_⟩
      rcases List.mem_cons.mp hv with rfl | hv
      · exact SeqAt.EqAt.int_none _ _
      · exact h2 A s v hv
def rCntN (K : PySem.W.Frag) : V → List V → Hp → VK → Prop := fun x xs H Q => ∃ (p : Addr) (ys : List V), x = .ref p ∧ xs = [.non] ∧ SqL K H p ys ∧ (∀ y ∈ ys, y = .non ∨ ∃ i, y = .int i) ∧ Q (.int (ys.countP isNon : Nat)) H
theorem mt_countN : MtR X "list.count" (rCntN X.K) := by
  intro pins s σ H x xs v us Q I rx rxs h
  obtain ⟨p, ys, rfl, rfl, hs, hy, q⟩ := h
  cases rx
  obtain ⟨u, rfl, ru⟩ := rxs.one
  cases ru
  obtain ⟨its, rv, ⟨⟨cls, dd, data, sl⟩, n, ho, hc, hdn, hd⟩, hlen⟩ := I.list hs
  simp only at hc hd
  subst hc hd
  obtain ⟨c1, c2⟩ := cnt_vals rv hy
  refine call_meets PySem.F.slot_list_count ⟨_, ho, rfl⟩ PySem.F.entry_list_count (PySem.F.args_list_count_2 _ _)
    (SeqAt.list_countAt p its.toArray n dd sl .none nonB) ⟨ho, fun y hm => c2 _ _ y (by simpa using hm), ?_⟩
  refine ⟨.int (ys.countP isNon : Nat), H, I.tok _, ⟨s.toks, ?_⟩, q⟩
  show Value.int ((its.toArray.toList.countP nonB : Nat) : Int) s.toks = _
  rw [show its.toArray.toList.countP nonB = ys.countP isNon from c1]
end
end Un

set_option maxRecDepth 100000
set_option maxHeartbeats 8000000
namespace Un
open PySem PySem.Spec PyProof.Rows L2
/-- a web at a that is a list of its own -/
def WebL (H : Hp) (a : Addr) (es : List (Int × Int)) : Prop := ∃ ts : List Addr, H a = some (.lst (ts.map V.ref)) ∧ Prs H ts es
theorem WebL.at {K : PySem.W.Frag} {H : Hp} {a : Addr} {es : List (Int × Int)} (h : WebL H a es) : WebAt K H a es := by
  obtain ⟨ts, h1, h2⟩ := h
  exact ⟨ts, sqL_of h1, h2⟩
theorem WebL.same {H H' : Hp} {a : Addr} {es : List (Int × Int)} (h : WebL H a es) (s : Same H H') : WebL H' a es := by
  obtain ⟨ts, h1, h2⟩ := h
  exact ⟨ts, s _ _ h1, h2.keep fun t xs e => s _ _ e⟩
theorem WebL.lst {H : Hp} {a : Addr} {es : List (Int × Int)} (h : WebL H a es) : ∃ xs, H a = some (.lst xs) := by
  obtain ⟨ts, h1, _⟩ := h
  exact ⟨_, h1⟩
theorem flat_snoc {α β : Type} (f : α → List β) (l : List α) (x : α) : (l ++ [x]).flatMap f = l.flatMap f ++ f x := by
  rw [List.flatMap_append, List.flatMap_cons, List.flatMap_nil, List.append_nil]
theorem LLAt.out {H : Hp} {p : Addr} {as : List Addr} {xss : List (List Int)} (h : LLAt H p as xss) : p ∉ as := by
  intro hb
  obtain ⟨xs, _, e1⟩ := h.2.mem hb
  rw [h.1] at e1
  have e2 := HO.lst.inj (Option.some.inj e1)
  cases as with
  | nil => exact List.not_mem_nil hb
  | cons c cs' =>
    cases xs with
    | nil => cases e2
    | cons z zs => cases e2
theorem str_ne {x : PySem.Str} : V.bl (!decide (V.str x = V.str x)) = V.bl false := by simp
theorem str_eq {x : PySem.Str} : V.bl (decide (V.str x = V.str x)) = V.bl true := by simp
theorem dp2 {K : PySem.W.Frag} {H : Hp} {L p q : Addr} {d e : PyData} (h : H L = some (.lst [.ref p, .ref q])) (h1 : Dp K H (.ref p) d) (h2 : Dp K H (.ref q) e) : Dp K H (.ref L) (.list [d, e]) := .lst (sqL_of h) (.cons h1 (.cons h2 .nil))
theorem fine2 {D m : Nat} {d : PyData} (h : Fine D m d) : Fine (D + 1) (2 * (m + 1)) (.list [d, d]) := Fine.list (fun e he => by
  rcases List.mem_cons.mp he with rfl | he
  · exact h
  · rw [List.mem_singleton.mp he]
    exact h) (Nat.le_refl _)
theorem fine_web {n : Int} (n16 : n ≤ 16) {es : List (Int × Int)} (hI : Inb n es) (hl : es.length ≤ 200) : Fine 2 600 (dW es) := by
  refine fine_W (L := 200) (fun e he => ?_) hl
  obtain ⟨h1, h2, h3⟩ := hI e he
  omega
theorem cut_to (xs : List V) (k : Nat) : cutV xs none (some (k : Int)) = xs.take k := by
  unfold cutV
  rw [HT.sIx_none, HT.sIx_nat xs.length xs.length k, List.drop_zero, Nat.sub_zero]
  by_cases h : k ≤ xs.length
  · rw [Nat.min_eq_left h]
  · rw [Nat.min_eq_right (by omega), List.take_length, List.take_of_length_le (by omega)]
theorem Prs.take {H : Hp} : ∀ (k : Nat) {ts : List Addr} {es : List (Int × Int)}, Prs H ts es → Prs H (ts.take k) (es.take k)
  | 0, _, _, _ => .nil
  | _ + 1, _, _, .nil => .nil
  | k + 1, _, _, .cons r q => .cons r (Prs.take k q)
/-! ### the cells in their order -/
def cs (n : Int) : List Int := (List.range n.toNat).map fun (i : Nat) => 1 + (i : Int)
theorem mem_cs {n c : Int} : c ∈ cs n ↔ 1 ≤ c ∧ c ≤ n := by
  unfold cs
  rw [List.mem_map]
  constructor
  · rintro ⟨i, hi, rfl⟩
    have := List.mem_range.mp hi
    omega
  · rintro ⟨h1, h2⟩
    exact ⟨(c - 1).toNat, List.mem_range.mpr (by omega), by omega⟩
theorem cs_len (n : Int) : (cs n).length = n.toNat := by
  unfold cs
  rw [List.length_map, List.length_range]
theorem cs_take (n : Int) (i : Nat) (hi : i < n.toNat) : (cs n).take (i + 1) = (cs n).take i ++ [1 + (i : Int)] := by
  have g : (cs n)[i]? = some (1 + (i : Int)) := by
    unfold cs
    rw [List.getElem?_map, List.getElem?_range hi] <;> rfl
  rw [List.take_add_one, g] <;> rfl
end Un

set_option maxRecDepth 100000
set_option maxHeartbeats 4000000
namespace Un
open PySem PySem.Spec PyProof.Rows L2
/-! ### the text by places, the defs' scopes -/
def topS (i : Nat) : Stmt := PySem.Challenge.pw_unnoted_k11_whole_orders_tell_the_ends.main.body.getD i (.Pass ⟨0, 0, 0, 0⟩)
abbrev s_is_whole : Stmt := topS 5
theorem sc_is_whole : FnScope ["thing"] ["thing"] (defScope s_is_whole) := ⟨rfl, rfl, rfl, by decide +kernel, rfl, by decide +kernel, by decide +kernel⟩
abbrev s_is_cell : Stmt := topS 6
theorem sc_is_cell : FnScope ["cells", "thing"] ["cells", "thing"] (defScope s_is_cell) := ⟨rfl, rfl, rfl, by decide +kernel, rfl, by decide +kernel, by decide +kernel⟩
abbrev s_is_exchange : Stmt := topS 7
theorem sc_is_exchange : FnScope ["cells", "thing", "first", "second"] ["cells", "thing"] (defScope s_is_exchange) := ⟨rfl, rfl, rfl, by decide +kernel, rfl, by decide +kernel, by decide +kernel⟩
abbrev s_check_cells : Stmt := topS 8
theorem sc_check_cells : FnScope ["cells", "least", "most"] ["cells", "least", "most"] (defScope s_check_cells) := ⟨rfl, rfl, rfl, by decide +kernel, rfl, by decide +kernel, by decide +kernel⟩
abbrev s_check_log : Stmt := topS 9
theorem sc_check_log : FnScope ["cells", "log", "seen", "index", "thing"] ["cells", "log"] (defScope s_check_log) := ⟨rfl, rfl, rfl, by decide +kernel, rfl, by decide +kernel, by decide +kernel⟩
abbrev s_ends : Stmt := topS 11
theorem sc_ends : FnScope ["cells", "log"] ["cells", "log"] (defScope s_ends) := ⟨rfl, rfl, rfl, by decide +kernel, rfl, by decide +kernel, by decide +kernel⟩
abbrev s_ways : Stmt := topS 12
theorem sc_ways : FnScope ["cells", "log"] ["cells", "log"] (defScope s_ways) := ⟨rfl, rfl, rfl, by decide +kernel, rfl, by decide +kernel, by decide +kernel⟩
abbrev s_orders : Stmt := topS 13
theorem sc_orders : FnScope ["cells", "log"] ["cells", "log"] (defScope s_orders) := ⟨rfl, rfl, rfl, by decide +kernel, rfl, by decide +kernel, by decide +kernel⟩
abbrev s_are_one_kind : Stmt := topS 14
theorem sc_are_one_kind : FnScope ["cells", "log", "other"] ["cells", "log", "other"] (defScope s_are_one_kind) := ⟨rfl, rfl, rfl, by decide +kernel, rfl, by decide +kernel, by decide +kernel⟩
abbrev s_ways_of : Stmt := topS 15
theorem sc_ways_of : FnScope ["cells", "log", "found", "held", "first", "second", "one", "two", "cell"] ["cells", "log"] (defScope s_ways_of) := ⟨rfl, rfl, rfl, by decide +kernel, rfl, by decide +kernel, by decide +kernel⟩
abbrev s_ends_of : Stmt := topS 16
theorem sc_ends_of : FnScope ["cells", "log", "way"] ["cells", "log"] (defScope s_ends_of) := ⟨rfl, rfl, rfl, by decide +kernel, rfl, by decide +kernel, by decide +kernel⟩
abbrev s_orders_of : Stmt := topS 17
theorem sc_orders_of : FnScope ["cells", "log", "found", "first", "second", "_"] ["cells", "log"] (defScope s_orders_of) := ⟨rfl, rfl, rfl, by decide +kernel, rfl, by decide +kernel, by decide +kernel⟩
abbrev s_l_draws : Stmt := topS 19
theorem sc_l_draws : FnScope ["_law_cell"] ["_law_cell"] (defScope s_l_draws) := ⟨rfl, rfl, rfl, by decide +kernel, rfl, by decide +kernel, by decide +kernel⟩
abbrev s_l_next : Stmt := topS 20
theorem sc_l_next : FnScope ["_law_draws_here", "_law_k", "_law_number"] ["_law_draws_here"] (defScope s_l_next) := ⟨rfl, rfl, rfl, by decide +kernel, rfl, by decide +kernel, by decide +kernel⟩
abbrev s_l_web : Stmt := topS 21
theorem sc_l_web : FnScope ["_law_draws_here", "_law_most", "_law_many", "_law_size", "_law_told", "_law_kind", "_law_k", "_law_turn", "_law_one", "_law_two"] ["_law_draws_here", "_law_most", "_law_many"] (defScope s_l_web) := ⟨rfl, rfl, rfl, by decide +kernel, rfl, by decide +kernel, by decide +kernel⟩
abbrev s_l_log : Stmt := topS 22
theorem sc_l_log : FnScope ["_law_draws_here", "_law_some", "_law_left", "_law_told"] ["_law_draws_here", "_law_some"] (defScope s_l_log) := ⟨rfl, rfl, rfl, by decide +kernel, rfl, by decide +kernel, by decide +kernel⟩
abbrev s_l_orders : Stmt := topS 23
theorem sc_l_orders : FnScope ["_law_size", "_law_made", "_law_told", "_law_one", "_law_two", "_law_first", "_law_second", "_law_k"] ["_law_size", "_law_made"] (defScope s_l_orders) := ⟨rfl, rfl, rfl, by decide +kernel, rfl, by decide +kernel, by decide +kernel⟩
abbrev s_l_walk : Stmt := topS 24
theorem sc_l_walk : FnScope ["_law_around", "_law_k", "_law_told", "_law_left", "_law_there", "_law_row"] ["_law_around", "_law_k"] (defScope s_l_walk) := ⟨rfl, rfl, rfl, by decide +kernel, rfl, by decide +kernel, by decide +kernel⟩
abbrev s_l_shaken : Stmt := topS 25
theorem sc_l_shaken : FnScope ["_law_draws_here", "_law_made", "_law_told", "_law_turn", "_law_at", "_law_pair", "_law_more"] ["_law_draws_here", "_law_made"] (defScope s_l_shaken) := ⟨rfl, rfl, rfl, by decide +kernel, rfl, by decide +kernel, by decide +kernel⟩
abbrev s_l_two_right : Stmt := topS 26
theorem sc_l_two_right : FnScope ["_law_size", "_law_made", "_law_second", "_law_same", "_law_kept", "_law_told"] ["_law_size", "_law_made", "_law_second"] (defScope s_l_two_right) := ⟨rfl, rfl, rfl, by decide +kernel, rfl, by decide +kernel, by decide +kernel⟩
abbrev s_l_right : Stmt := topS 27
theorem sc_l_right : FnScope ["_law_draws_here", "_law_size", "_law_some", "_law_made", "_law_kept", "_law_around", "_law_third", "_law_text", "_law_second", "_law_apart", "_law_fits", "_law_k", "_law_pair"] ["_law_draws_here", "_law_size", "_law_some"] (defScope s_l_right) := ⟨rfl, rfl, rfl, by decide +kernel, rfl, by decide +kernel, by decide +kernel⟩
abbrev s_law : Stmt := topS 28
theorem sc_law : FnScope ["_law_script", "_law_draws_here", "_law_turn", "_law_size", "_law_some", "_law_cell"] ["_law_script"] (defScope s_law) := ⟨rfl, rfl, rfl, by decide +kernel, rfl, by decide +kernel, by decide +kernel⟩
end Un

set_option maxRecDepth 100000
set_option maxHeartbeats 4000000
namespace Un
open PySem PySem.Spec PyProof.Rows L2
/-! ### the built-in names -/
structure Txt (mg : Str → Option Value) : Prop where
  n_int : mg "int" = none
  n_bool : mg "bool" = none
  n_tuple : mg "tuple" = none
  n_list : mg "list" = none
  n_isinstance : mg "isinstance" = none
  n_len : mg "len" = none
  n_enumerate : mg "enumerate" = none
  n_range : mg "range" = none
  n_min : mg "min" = none
  n_max : mg "max" = none
  n_sorted : mg "sorted" = none
  n_set : mg "set" = none
  n_repr : mg "repr" = none
  g_MOST_CELLS : ∃ u, mg "MOST_CELLS" = some u ∧ RelV (.int 16) u
section
variable {P : Program} {w : World} {K : PySem.W.Frag} {mg : Str → Option Value} {base : Heap}
/-! ### the checks, where all is well -/
def spWhole : Sp := fun vs H Q _ => ∃ i : Int, vs = [.int i] ∧ Q (.bl true) H
theorem ok_is_whole {f : Addr} {fd : FuncData} (F : Fun K "is_whole" "is_whole" s_is_whole f fd) (T : Txt mg) : FnOk P w K mg base CX0 1 f fd ["thing"] spWhole := by
  refine F.ok sc_is_whole (fun vs H Q E h => ?_) (fun cdv A outer s H vs Q E hr h => ?_)
  · obtain ⟨i, rfl, _⟩ := h
    rfl
  · obtain ⟨i, rfl, q⟩ := h
    refine ⟨_, (pss_one (ps_ret (pe_and (pe_callB call_isi (by rfl) T.n_isinstance (by decide +kernel) (pa_cons (pv 0) (pa_cons (pe_bltn (v := .ty "int") (by rfl) T.n_int (by decide +kernel) rfl) pa_nil))) (pe_one (pe_not (pe_callB call_isi (by rfl) T.n_isinstance (by decide +kernel) (pa_cons (pv 0) (pa_cons (pe_bltn (v := .ty "bool") (by rfl) T.n_bool (by decide +kernel) rfl) pa_nil)))))))), ?_⟩
    refine ⟨_, rfl, .int i, .ty "int", .type "int", .type "int", true, rfl, .ty _, .base (.int i), kit_ty (by decide +kernel), true, rfl, iteT ?_⟩
    exact ⟨_, rfl, .int i, .ty "bool", .type "int", .type "bool", false, rfl, .ty _, .base (.int i), kit_ty (by decide +kernel), false, rfl, q⟩
def spCell : Sp := fun vs H Q _ => ∃ n i : Int, vs = [.int n, .int i] ∧ 1 ≤ i ∧ i ≤ n ∧ Q (.bl true) H
theorem ok_is_cell {f : Addr} {fd : FuncData} (F : Fun K "is_cell" "is_cell" s_is_cell f fd) (c : C8.Cal P w K mg base 1 "is_whole" spWhole []) : FnOk P w K mg base CX0 2 f fd ["cells", "thing"] spCell := by
  refine F.ok sc_is_cell (fun vs H Q E h => ?_) (fun cdv A outer s H vs Q E hr h => ?_)
  · obtain ⟨n, i, rfl, _⟩ := h
    rfl
  · obtain ⟨n, i, rfl, h1, h2, q⟩ := h
    refine ⟨_, (pss_one (ps_ret (pe_and (C8.pe_c c hr (by decide) (by rfl) (pa_cons (pv 1) pa_nil)) (pe_one (pe_chain op_le op_le pe_int (pv 1) (pv 0)))))), ?_⟩
    refine ⟨_, rfl, i, rfl, true, rfl, iteT ?_⟩
    refine ⟨_, rfl, 1, i, rfl, rfl, true, congrArg V.bl (decide_eq_true h1), iteT ?_⟩
    refine ⟨_, rfl, i, n, rfl, rfl, ?_⟩
    show Q (.bl (decide (i ≤ n))) H
    rw [decide_eq_true h2]
    exact q
def spExch (K : PySem.W.Frag) : Sp := fun vs H Q _ => ∃ (n u v : Int) (t : Addr), vs = [.int n, .ref t] ∧ H t = some (.tup [.int u, .int v]) ∧ 1 ≤ u ∧ u < v ∧ v ≤ n ∧ Q (.bl true) H
theorem ok_is_exchange {f : Addr} {fd : FuncData} (F : Fun K "is_exchange" "is_exchange" s_is_exchange f fd) (T : Txt mg) (c : C8.Cal P w K mg base 2 "is_cell" spCell []) : FnOk P w K mg base CX0 3 f fd ["cells", "thing"] (spExch K) := by
  refine F.ok sc_is_exchange (fun vs H Q E h => ?_) (fun cdv A outer s H vs Q E hr h => ?_)
  · obtain ⟨n, u, v, t, rfl, _⟩ := h
    rfl
  · obtain ⟨n, u, v, t, rfl, ht, h1, h2, h3, q⟩ := h
    refine ⟨_, (pss_cons (ps_if (PW.pt (pw_or (pt_not (pt_val (pe_callB call_isi (by rfl) T.n_isinstance (by decide +kernel) (pa_cons (pv 1) (pa_cons (pe_bltn (v := .ty "tuple") (by rfl) T.n_tuple (by decide +kernel) rfl) pa_nil))))) (pw_or1 (pt_cmpR op_ne (pe_callB call_len_seq (by rfl) T.n_len (by decide +kernel) (pa_cons (pv 1) pa_nil)) pe_int (by rfl))))) (pss_one (ps_ret pe_bl)) pss_nil)
      (pss_cons (ps_asg (pv 1) (pg_tup rfl (pgs_cons (pg_name (i := 2) sc_is_exchange.nd rfl (by first | exact Or.inl rfl | exact Or.inr rfl)) (pgs_cons (pg_name (i := 3) sc_is_exchange.nd rfl (by first | exact Or.inl rfl | exact Or.inr rfl)) pgs_nil))))
      (pss_one (ps_ret (pe_and (C8.pe_c c hr (by decide) (by rfl) (pa_cons (pv 0) (pa_cons (pv 2) pa_nil))) (pe_and (C8.pe_c c hr (by decide) (by rfl) (pa_cons (pv 0) (pa_cons (pv 3) pa_nil))) (pe_one (pe_cmpR op_lt (pv 2) (pv 3) (by rfl))))))))), ?_⟩
    refine ⟨_, rfl, .ref t, .ty "tuple", .type "tuple", .type "tuple", true, rfl, .ty _, .base (.tup ht), kit_ty (by decide +kernel), true, rfl, iteF ?_⟩
    refine ⟨_, rfl, t, _, rfl, .inr (sqT_of ht), rfl, false, rfl, iteF ?_⟩
    refine ⟨_, rfl, t, _, rfl, sqT_of ht, rfl, _, _, rfl, _, _, rfl, rfl, ?_⟩
    refine ⟨_, rfl, _, rfl, n, u, rfl, h1, by omega, true, rfl, iteT ?_⟩
    refine ⟨_, rfl, _, rfl, n, v, rfl, by omega, h3, true, rfl, iteT ?_⟩
    refine ⟨_, rfl, _, rfl, u, v, rfl, rfl, ?_⟩
    show Q (.bl (decide (u < v))) H
    rw [decide_eq_true h2]
    exact q
def spChkCells : Sp := fun vs H Q _ => ∃ n : Int, vs = [.int n, .int 1, .int 16] ∧ 1 ≤ n ∧ n ≤ 16 ∧ Q .non H
theorem ok_check_cells {f : Addr} {fd : FuncData} (F : FunDD K "check_cells" s_check_cells [.int 1, .int 16] f fd) (c : C8.Cal P w K mg base 1 "is_whole" spWhole []) : FnOk P w K mg base CX0 3 f fd ["cells", "least", "most"] spChkCells := by
  refine F.ok sc_check_cells (fun vs H Q E h => ?_) (fun cdv A outer s H vs Q E hr h => ?_)
  · obtain ⟨n, rfl, _⟩ := h
    rfl
  · obtain ⟨n, rfl, h1, h2, q⟩ := h
    refine ⟨_, (pss_one (ps_if (PW.pt (pw_or (pt_not (pt_val (C8.pe_c c hr (by decide) (by rfl) (pa_cons (pv 0) pa_nil)))) (pw_or1 (pt_not (pt_chain op_le op_le (pv 1) (pv 0) (pv 2)))))) (pss_one ps_never) pss_nil)), ?_⟩
    refine ⟨_, rfl, n, rfl, true, rfl, iteF ?_⟩
    refine ⟨_, rfl, _, rfl, 1, n, rfl, rfl, true, congrArg V.bl (decide_eq_true h1), iteT ?_⟩
    exact ⟨_, rfl, n, 16, rfl, rfl, true, congrArg V.bl (decide_eq_true h2), iteF q⟩
theorem binds_check_cells {f : Addr} {fd : FuncData} (F : FunDD K "check_cells" s_check_cells [.int 1, .int 16] f fd) : ∃ ds, Vals [.int 1, .int 16] ds ∧ Binds K fd ["cells", "least", "most"] ds :=
  FunD.binds1 F 1 0 (fun h => nomatch h) rfl fun _ _ _ _ _ _ _ us its h1 h2 => match us, its, h1, h2 with | [_], [_, _], _, _ => ⟨_, rfl, rfl⟩
end
end Un

set_option maxRecDepth 100000
set_option maxHeartbeats 4000000
namespace Un
open PySem PySem.Spec PyProof.Rows L2
section
variable {P : Program} {w : World} {K : PySem.W.Frag} {mg : Str → Option Value} {base : Heap}
/-! ### the draws -/
def Drw (H : Hp) (d : Addr) (k : Nat) : Prop := ∃ (a : Int) (b : Bool), H d = some (.lst [.int a, .int (k : Nat), .bl b]) ∧ 0 ≤ a
def spDraws : Sp := fun vs H Q _ => ∃ c : Int, vs = [.int c] ∧ ∀ H' d, Same H H' → H d = none → Drw H' d 0 → Q (.ref d) H'
theorem big_ok : CPowB 10 60 ∧ CPowB (10 ^ 60) 60 ∧ CPowB ((10 ^ 60) ^ 60) 4 := by
  unfold CPowB
  decide +kernel
theorem ok_draws {f : Addr} {fd : FuncData} (F : Fun K "_law_draws" "_law_draws" s_l_draws f fd) (T : Txt mg) : FnOk P w K mg base CX0 1 f fd ["_law_cell"] spDraws := by
  refine F.ok sc_l_draws (fun vs H Q E h => ?_) (fun cdv A outer s H vs Q E hr h => ?_)
  · obtain ⟨c, rfl, _⟩ := h
    rfl
  · obtain ⟨c, rfl, q⟩ := h
    refine ⟨_, (pss_one (ps_ret (pe_lst (pa_cons (pe_op op_mod (pe_callTy call_int1 (by rfl) T.n_int (by decide +kernel) (pa_cons (pv 0) pa_nil)) (pe_op op_powB (pe_op op_powB (pe_op op_powB pe_int pe_int) pe_int) pe_int)) (pa_cons pe_int (pa_cons (pe_cmpR op_ge (pv 0) (pe_op op_powB pe_int pe_int) (by rfl)) pa_nil)))))), ?_⟩
    refine ⟨_, rfl, .inl ⟨c, rfl, ?_⟩⟩
    refine ⟨10, 60, rfl, rfl, big_ok.1, ?_⟩
    refine ⟨10 ^ 60, 60, rfl, rfl, big_ok.2.1, ?_⟩
    refine ⟨(10 ^ 60) ^ 60, 4, rfl, rfl, big_ok.2.2, ?_⟩
    have pos : (0 : Int) < ((10 ^ 60) ^ 60) ^ 4 := Int.pow_pos (Int.pow_pos (Int.pow_pos (by decide)))
    refine ⟨c, ((10 ^ 60) ^ 60) ^ 4, rfl, rfl, pos, ?_⟩
    refine ⟨_, rfl, 10, 18, rfl, rfl, (by unfold CPowB; decide +kernel), ?_⟩
    refine ⟨c, 10 ^ 18, rfl, rfl, ?_⟩
    refine ⟨by show 3 ≤ sizeLine; decide, fun d nd => ?_⟩
    exact q _ d (same_upd nd) nd ⟨_, _, upd_same, Int.emod_nonneg _ (by omega)⟩
def spNext : Sp := fun vs H Q _ => ∃ (d : Addr) (k : Nat), vs = [.ref d] ∧ Drw H d k ∧ k < 2 ^ 30 ∧ ∀ H' (n : Int), SameBut (· = d) H H' → Drw H' d (k + 1) → 0 ≤ n → Q (.int n) H'
theorem ok_next {f : Addr} {fd : FuncData} (F : Fun K "_law_next" "_law_next" s_l_next f fd) (T : Txt mg) : FnOk P w K mg base CX0 1 f fd ["_law_draws_here"] spNext := by
  refine F.ok sc_l_next (fun vs H Q E h => ?_) (fun cdv A outer s H vs Q E hr h => ?_)
  · obtain ⟨d, k, rfl, _⟩ := h
    rfl
  · obtain ⟨d, k, rfl, ⟨a, b, hd, ha⟩, hk, q⟩ := h
    refine ⟨_, (pss_cons (ps_asg (pe_op op_add (pe_ix ix_list (pv 0) pe_int (fun _ _ => rfl)) pe_int) (pg_sub (pv 0) pe_int set_list))
      (pss_cons (ps_set (i := 1) sc_l_next.nd rfl (by first | exact Or.inl rfl | exact Or.inr rfl) (pe_ix ix_list (pv 0) pe_int (fun _ _ => rfl)))
      (pss_cons (ps_if (pt_val (pe_ix ix_list (pv 0) pe_int (fun _ _ => rfl))) (pss_cons (ps_set (i := 2) sc_l_next.nd rfl (by first | exact Or.inl rfl | exact Or.inr rfl) (pe_op op_mod (pe_callTy call_int1 (by rfl) T.n_int (by decide +kernel) (pa_cons (pe_ix ix_list (pv 0) pe_int (fun _ _ => rfl)) pa_nil)) (pe_op op_powB pe_int pe_int)))
        (pss_cons (ps_asg (pe_op op_fdiv (pe_ix ix_list (pv 0) pe_int (fun _ _ => rfl)) (pe_op op_powB pe_int pe_int)) (pg_sub (pv 0) pe_int set_list))
        (pss_one (ps_ret (pv 2))))) pss_nil)
      (pss_cons (ps_set (i := 2) sc_l_next.nd rfl (by first | exact Or.inl rfl | exact Or.inr rfl) (pe_op op_mod (pe_callTy call_int1 (by rfl) T.n_int (by decide +kernel) (pa_cons (pe_op op_mul (pe_op op_add (pe_op op_add (pe_op op_mod (pe_callTy call_int1 (by rfl) T.n_int (by decide +kernel) (pa_cons (pe_ix ix_list (pv 0) pe_int (fun _ _ => rfl)) pa_nil)) pe_int) (pe_op op_mul (pe_op op_mul (pv 1) (pv 1)) pe_int)) (pv 1)) pe_int) pa_nil)) pe_int))
      (pss_cons (ps_set (i := 2) sc_l_next.nd rfl (by first | exact Or.inl rfl | exact Or.inr rfl) (pe_op op_mod (pe_callTy call_int1 (by rfl) T.n_int (by decide +kernel) (pa_cons (pe_op op_mul (pv 2) (pv 2)) pa_nil)) pe_int))
      (pss_one (ps_ret (pe_op op_fdiv (pe_op op_mod (pe_callTy call_int1 (by rfl) T.n_int (by decide +kernel) (pa_cons (pe_op op_mul (pv 2) (pe_op op_add (pv 2) pe_int)) pa_nil)) pe_int) pe_int)))))))), ?_⟩
    -- the count
    refine ⟨_, rfl, d, _, 1, .int (k : Nat), rfl, rfl, sqL_of hd, atI_nat (j := 1) rfl, ?_⟩
    refine ⟨_, 1, rfl, rfl, ?_⟩
    refine ⟨_, rfl, d, _, 1, 1, rfl, rfl, hd, rfl, ?_⟩
    have hd1 : upd H d (.lst ([V.int a, .int (k : Nat), .bl b].set 1 (.int ((k : Nat) + 1)))) d = some (.lst [.int a, .int ((k + 1 : Nat) : Int), .bl b]) := by
      rw [upd_same]
      rfl
    have b1 : SameBut (· = d) H (upd H d (.lst ([V.int a, .int (k : Nat), .bl b].set 1 (.int ((k : Nat) + 1))))) := (SameBut.refl _ H).mut rfl
    generalize upd H d (.lst ([V.int a, .int (k : Nat), .bl b].set 1 (.int ((k : Nat) + 1)))) = H1 at hd1 b1
    refine ⟨_, rfl, d, _, 1, .int ((k + 1 : Nat) : Int), rfl, rfl, sqL_of hd1, atI_nat (j := 1) rfl, ?_⟩
    refine ⟨_, rfl, d, _, 2, .bl b, rfl, rfl, sqL_of hd1, atI_nat (j := 2) rfl, b, rfl, ?_⟩
    cases b with
    | true =>
      refine iteT ?_
      refine ⟨_, rfl, d, _, 0, .int a, rfl, rfl, sqL_of hd1, atI_nat (j := 0) rfl, .inl ⟨a, rfl, ?_⟩⟩
      refine ⟨10, 6, rfl, rfl, by unfold CPowB; decide +kernel, ?_⟩
      refine ⟨a, 10 ^ 6, rfl, rfl, (by show (0 : Int) < 10 ^ 6; decide), ?_⟩
      refine ⟨_, rfl, d, _, 0, .int a, rfl, rfl, sqL_of hd1, atI_nat (j := 0) rfl, ?_⟩
      refine ⟨10, 6, rfl, rfl, by unfold CPowB; decide +kernel, ?_⟩
      refine ⟨a, 10 ^ 6, rfl, rfl, by unfold CDiv; decide, ?_⟩
      refine ⟨_, rfl, d, _, 0, 0, rfl, rfl, hd1, rfl, ?_⟩
      refine ⟨_, rfl, ?_⟩
      refine q _ _ (b1.mut rfl) ⟨_, _, upd_same, Int.ediv_nonneg ha (by decide)⟩ (Int.emod_nonneg _ (by decide))
    | false =>
      refine iteF ?_
      refine ⟨_, rfl, d, _, 0, .int a, rfl, rfl, sqL_of hd1, atI_nat (j := 0) rfl, .inl ⟨a, rfl, ?_⟩⟩
      refine ⟨a, 1000003, rfl, rfl, (by show (0 : Int) < 1000003; decide), ?_⟩
      refine ⟨_, rfl, _, rfl, ((k + 1 : Nat) : Int), ((k + 1 : Nat) : Int), rfl, rfl, .inl (by omega), ?_⟩
      refine ⟨((k + 1 : Nat) : Int) * ((k + 1 : Nat) : Int), 7919, rfl, rfl, .inr (by decide), ?_⟩
      refine ⟨_, _, rfl, rfl, ?_⟩
      refine ⟨_, rfl, _, _, rfl, rfl, ?_⟩
      refine ⟨_, 48271, rfl, rfl, .inr (by decide), .inl ⟨_, rfl, ?_⟩⟩
      refine ⟨_, 2147483629, rfl, rfl, (by show (0 : Int) < 2147483629; decide), ?_⟩
      obtain ⟨n1, en1, h1, h2⟩ : ∃ n1 : Int, n1 = (a % 1000003 + ((k + 1 : Nat) : Int) * ((k + 1 : Nat) : Int) * 7919 + ((k + 1 : Nat) : Int)) * 48271 % 2147483629 ∧ 0 ≤ n1 ∧ n1 < 2147483629 :=
        ⟨_, rfl, Int.emod_nonneg _ (by decide), Int.emod_lt_of_pos _ (by decide)⟩
      refine ⟨_, rfl, _, rfl, n1, n1, by rw [en1], by rw [en1], .inl (by omega), .inl ⟨_, rfl, ?_⟩⟩
      refine ⟨_, 2147483587, rfl, rfl, (by show (0 : Int) < 2147483587; decide), ?_⟩
      obtain ⟨n2, en2, h3, h4⟩ : ∃ n2 : Int, n2 = n1 * n1 % 2147483587 ∧ 0 ≤ n2 ∧ n2 < 2147483587 := ⟨_, rfl, Int.emod_nonneg _ (by decide), Int.emod_lt_of_pos _ (by decide)⟩
      refine ⟨_, rfl, _, rfl, n2, 2, by rw [en2], rfl, ?_⟩
      refine ⟨n2, n2 + 2, by rw [en2], rfl, .inl (by omega), .inl ⟨_, rfl, ?_⟩⟩
      refine ⟨_, 2147483579, rfl, rfl, (by show (0 : Int) < 2147483579; decide), ?_⟩
      refine ⟨_, 7, rfl, rfl, by unfold CDiv; decide, ?_⟩
      exact q _ _ b1 ⟨_, _, hd1, ha⟩ (Int.ediv_nonneg (Int.emod_nonneg _ (by decide)) (by decide))
end
end Un

set_option maxRecDepth 100000
set_option maxHeartbeats 4000000
namespace Un
open PySem PySem.Spec PyProof.Rows L2
section
variable {P : Program} {w : World} {K : PySem.W.Frag} {mg : Str → Option Value} {base : Heap}
theorem Drw.is {H H' : Hp} {d : Addr} {k : Nat} (h : Drw H d k) : H d ≠ none := by
  obtain ⟨a, b, e, _⟩ := h
  rw [e]
  exact fun z => nomatch z
theorem Drw.keep {H H' : Hp} {d : Addr} {k : Nat} (h : Drw H d k) (e : ∀ o, H d = some o → H' d = some o) : Drw H' d k := by
  obtain ⟨a, b, q, r⟩ := h
  exact ⟨a, b, e _ q, r⟩
def pr2 (l : List Int) : Int × Int := (l.getD 0 0, l.getD 1 0)
/-- what the sorted set tells -/
theorem sorted_web {H : Hp} {n : Int} {L' : List (Addr × List Int)} (hn : n ≤ 16) (h : ∀ q ∈ L', ∃ u v : Int, q.2 = [u, v] ∧ 1 ≤ u ∧ u < v ∧ v ≤ n ∧ H q.1 = some (.tup [.int u, .int v])) (nd : (L'.map (·.2)).Nodup)
    (pw : L'.Pairwise fun q r => TS.code 64 q.2 ≤ TS.code 64 r.2) : Prs H (L'.map (·.1)) (L'.map fun q => pr2 q.2) ∧ Asc (L'.map fun q => pr2 q.2) ∧ Inb n (L'.map fun q => pr2 q.2) := by
  refine ⟨?_, ?_, ?_⟩
  · clear nd pw
    induction L' with
    | nil => exact .nil
    | cons q r ih =>
      obtain ⟨u, v, e, _, _, _, ht⟩ := h q List.mem_cons_self
      refine .cons ?_ (ih fun p hp => h p (List.mem_cons_of_mem _ hp))
      show H q.1 = some (.tup [.int (pr2 q.2).1, .int (pr2 q.2).2])
      rw [e]
      exact ht
  · unfold Asc
    rw [List.pairwise_map]
    have nd2 : L'.Pairwise fun q r => q.2 ≠ r.2 := by
      rw [List.Nodup, List.pairwise_map] at nd
      exact nd
    refine (pw.and nd2).imp_of_mem ?_
    rintro q r hq hr ⟨hc, hne⟩
    obtain ⟨u, v, e, a1, a2, a3, _⟩ := h q hq
    obtain ⟨u', v', e', b1, b2, b3, _⟩ := h r hr
    rw [e, e'] at hc hne
    show Lt2 (pr2 q.2) (pr2 r.2)
    rw [e, e']
    show u < u' ∨ (u = u' ∧ v < v')
    exact pair_lt hc hne (by omega) (by omega) (by omega) (by omega)
  · intro e he
    obtain ⟨q, hq, rfl⟩ := List.mem_map.mp he
    obtain ⟨u, v, e, a1, a2, a3, _⟩ := h q hq
    rw [e]
    exact ⟨a1, a2, a3⟩
theorem Prs.keys {H : Hp} : ∀ {ts : List Addr} {es : List (Int × Int)}, Prs H ts es → ∃ ks : List (Addr × List Int), (ks.map fun p => V.ref p.1) = ts.map V.ref ∧ ks.length = es.length ∧ ∀ p ∈ ks, ∃ e ∈ es, p.2 = [e.1, e.2] ∧ H p.1 = some (.tup [.int e.1, .int e.2])
  | _, _, .nil => ⟨[], rfl, rfl, fun p hp => (List.not_mem_nil hp).elim⟩
  | t :: ts, e :: es, .cons r q => by
    obtain ⟨ks, h1, h2, h3⟩ := Prs.keys q
    refine ⟨(t, [e.1, e.2]) :: ks, ?_, congrArg Nat.succ h2, fun p hp => ?_⟩
    · rw [List.map_cons, List.map_cons, h1]
    · rcases List.mem_cons.mp hp with rfl | hp
      · exact ⟨e, List.mem_cons_self, rfl, r⟩
      · obtain ⟨e', m, a⟩ := h3 p hp
        exact ⟨e', List.mem_cons_of_mem _ m, a⟩
def spWeb : Sp := fun vs H Q _ => ∃ (d : Addr) (most many : Int) (k : Nat), vs = [.ref d, .int most, .int many] ∧ Drw H d k ∧ k < 2 ^ 20 ∧ 1 ≤ most ∧ most ≤ 16 ∧ 0 ≤ many ∧ many ≤ 9 ∧
  ∀ (H' : Hp) (t a : Addr) (n : Int) (ts : List Addr) (es : List (Int × Int)) (k' : Nat), SameBut (· = d) H H' → H t = none → H a = none → H' t = some (.tup [.int n, .ref a]) → H' a = some (.lst (ts.map V.ref)) → Prs H' ts es →
    Drw H' d k' → k' ≤ k + 50 → 1 ≤ n → n ≤ most → es.length < 64 → Asc es → Inb n es → Q (.ref t) H'
set_option maxHeartbeats 8000000 in
theorem ok_web {f : Addr} {fd : FuncData} (F : Fun K "_law_web" "_law_web" s_l_web f fd) (T : Txt mg) (c : C8.Cal P w K mg base 1 "_law_next" spNext []) : FnOk P w K mg base CX0 2 f fd ["_law_draws_here", "_law_most", "_law_many"] spWeb := by
  refine F.ok sc_l_web (fun vs H Q E h => ?_) (fun cdv A outer s H vs Q E hr h => ?_)
  · obtain ⟨d, most, many, k, rfl, _⟩ := h
    rfl
  · obtain ⟨d, most, many, k, rfl, hd, hk, m1, m2, y1, y2, q⟩ := h
    refine ⟨_, (pss_cons (ps_set (i := 3) sc_l_web.nd rfl (by first | exact Or.inl rfl | exact Or.inr rfl) (pe_op op_add pe_int (pe_op op_mod (pe_callTy call_int1 (by rfl) T.n_int (by decide +kernel) (pa_cons (C8.pe_c c hr (by decide) (by rfl) (pa_cons (pv 0) pa_nil)) pa_nil)) (pv 1))))
      (pss_cons (ps_set (i := 4) sc_l_web.nd rfl (by first | exact Or.inl rfl | exact Or.inr rfl) (pe_lst pa_nil))
      (pss_cons (ps_set (i := 5) sc_l_web.nd rfl (by first | exact Or.inl rfl | exact Or.inr rfl) (pe_op op_mod (pe_callTy call_int1 (by rfl) T.n_int (by decide +kernel) (pa_cons (C8.pe_c c hr (by decide) (by rfl) (pa_cons (pv 0) pa_nil)) pa_nil)) pe_int))
      (pss_cons (ps_for PassesOwn.never rfl (pi_range2 (by rfl) T.n_range (pa_cons pe_int (pa_cons (pe_op op_add (pv 3) pe_int) pa_nil))) (pg_name (i := 6) sc_l_web.nd rfl (by first | exact Or.inl rfl | exact Or.inr rfl)) (pss_one (ps_if (pt_cmpR op_gt (pv 5) pe_int (by rfl)) (pss_one (ps_expr (pe_bm PySem.F.plainAttrs_list PySem.F.slot_list_append PySem.F.type_list_append mt_append (pv 4) (pa_cons (pe_tup (pa_cons (pe_op op_add pe_int (pe_op op_mod (pe_callTy call_int1 (by rfl) T.n_int (by decide +kernel) (pa_cons (C8.pe_c c hr (by decide) (by rfl) (pa_cons (pv 0) pa_nil)) pa_nil)) (pe_op op_sub (pv 6) pe_int))) (pa_cons (pv 6) pa_nil))) pa_nil)))) pss_nil)))
      (pss_cons (ps_for PassesOwn.never rfl (pi_range1 (by rfl) T.n_range (pa_cons (pe_ifExp (pt_cmpR op_lt (pv 5) pe_int (by rfl)) (pe_op op_mod (pe_callTy call_int1 (by rfl) T.n_int (by decide +kernel) (pa_cons (C8.pe_c c hr (by decide) (by rfl) (pa_cons (pv 0) pa_nil)) pa_nil)) (pe_op op_add (pv 2) pe_int)) pe_int) pa_nil)) (pg_name (i := 7) sc_l_web.nd rfl (by first | exact Or.inl rfl | exact Or.inr rfl)) (pss_cons (ps_set (i := 8) sc_l_web.nd rfl (by first | exact Or.inl rfl | exact Or.inr rfl) (pe_op op_add pe_int (pe_op op_mod (pe_callTy call_int1 (by rfl) T.n_int (by decide +kernel) (pa_cons (C8.pe_c c hr (by decide) (by rfl) (pa_cons (pv 0) pa_nil)) pa_nil)) (pv 3))))
        (pss_cons (ps_set (i := 9) sc_l_web.nd rfl (by first | exact Or.inl rfl | exact Or.inr rfl) (pe_op op_add pe_int (pe_op op_mod (pe_callTy call_int1 (by rfl) T.n_int (by decide +kernel) (pa_cons (C8.pe_c c hr (by decide) (by rfl) (pa_cons (pv 0) pa_nil)) pa_nil)) (pv 3))))
        (pss_one (ps_set (i := 4) sc_l_web.nd rfl (by first | exact Or.inl rfl | exact Or.inr rfl) (pe_op op_cat (pv 4) (pe_op op_rep (pe_lst (pa_cons (pe_tup (pa_cons (pe_callB (call_min2 rfl) (by rfl) T.n_min (by decide +kernel) (pa_cons (pv 8) (pa_cons (pv 9) pa_nil))) (pa_cons (pe_callB (call_max2 rfl) (by rfl) T.n_max (by decide +kernel) (pa_cons (pv 8) (pa_cons (pv 9) pa_nil))) pa_nil))) pa_nil)) (pe_callTy call_int1 (by rfl) T.n_int (by decide +kernel) (pa_cons (pe_cmpR op_ne (pv 8) (pv 9) (by rfl)) pa_nil)))))))))
      (pss_one (ps_ret (pe_tup (pa_cons (pv 3) (pa_cons (pe_callB (cr_sortedT rfl) (by rfl) T.n_sorted (by decide +kernel) (pa_cons (pe_callTy (cr_setOfT rfl hr.units) (by rfl) T.n_set (by decide +kernel) (pa_cons (pv 4) pa_nil)) pa_nil)) pa_nil)))))))))), ?_⟩

    -- size
    refine ⟨_, rfl, d, k, rfl, hd, by omega, fun H1 x1 b1 d1 z1 => .inl ⟨x1, rfl, ?_⟩⟩
    refine ⟨_, rfl, x1, most, rfl, rfl, (by show 0 < most; omega), ?_⟩
    have e1 := Int.emod_nonneg x1 (show most ≠ 0 by omega)
    have e2 := Int.emod_lt_of_pos x1 (show 0 < most by omega)
    refine ⟨1, x1 % most, rfl, rfl, ?_⟩
    obtain ⟨n1, n2⟩ : 1 ≤ 1 + x1 % most ∧ 1 + x1 % most ≤ most := by omega
    dsimp only
    generalize 1 + x1 % most = n at n1 n2 ⊢
    -- told = [], kind
    refine ⟨Nat.zero_le _, fun l nl => ?_⟩
    have ndl : d ≠ l := fun z => d1.is (H' := H1) (z ▸ nl)
    have nl0 : H l = none := b1.freshN (fun b e => e ▸ d1.is (H' := H1)) nl
    refine ⟨_, rfl, d, k + 1, rfl, d1.keep fun o e => by rw [upd_ne ndl]; exact e, by omega, fun H2 x2 b2 d2 z2 => .inl ⟨x2, rfl, ?_⟩⟩
    have B2 : SameBut (· = d) H H2 := (b1.mutN nl0).trans b2
    have hl2 : H2 l = some (.lst []) := b2 l _ ndl.symm upd_same
    clear b1 b2 d1 nl
    refine ⟨_, 4, rfl, rfl, (by show (0 : Int) < 4; decide), ?_⟩
    dsimp only
    generalize x2 % 4 = kind
    -- the first loop
    refine ⟨_, rfl, n, 1, rfl, rfl, 2, n + 1, rfl, (by omega), ?_⟩
    have en : (n + 1 - 2).toNat = n.toNat - 1 := by omega
    refine for_range (lo := 2) (fun i σ H' => ∃ (ts : List Addr) (es : List (Int × Int)) (k' : Nat) (v6 v7 v8 v9 : Option V), σ = [some (.ref d), some (.int most), some (.int many), some (.int n), some (.ref l), some (.int kind), v6, v7, v8, v9] ∧
        SameBut (· = d) H H' ∧ H' l = some (.lst (ts.map V.ref)) ∧ Prs H' ts es ∧ Drw H' d k' ∧ k' ≤ k + 2 + i ∧ es.length ≤ i ∧ Inb n es)
      ⟨[], [], k + 2, none, none, none, none, rfl, B2, hl2, .nil, d2, by omega, Nat.zero_le _, fun e he => (List.not_mem_nil he).elim⟩ ?_ ?_
    · rintro i σ H3 hi ⟨ts, es, k', v6, v7, v8, v9, rfl, b3, hl3, hP, d3, hk', hlen, hI⟩
      rw [en] at hi
      refine ⟨_, rfl, kind, 0, rfl, rfl, _, rfl, ite2 (fun _ => ?_) (fun _ => ?_)⟩
      · refine ⟨_, rfl, .inl ⟨rfl, _, sqL_of hl3⟩, ?_⟩
        refine ⟨_, rfl, d, k', rfl, d3, by omega, fun H4 x4 b4 d4 z4 => .inl ⟨x4, rfl, ?_⟩⟩
        refine ⟨_, rfl, 2 + (i : Int), 1, rfl, rfl, ?_⟩
        refine ⟨x4, 2 + (i : Int) - 1, rfl, rfl, (by show (0 : Int) < 2 + (i : Int) - 1; omega), ?_⟩
        have e1 := Int.emod_nonneg x4 (show 2 + (i : Int) - 1 ≠ 0 by omega)
        have e2 := Int.emod_lt_of_pos x4 (show 0 < 2 + (i : Int) - 1 by omega)
        refine ⟨1, _, rfl, rfl, _, rfl, ?_⟩
        refine ⟨by show 2 ≤ sizeLine; decide, fun t nt => ?_⟩
        dsimp only at nt ⊢
        obtain ⟨u1, u2⟩ : 1 ≤ 1 + x4 % (2 + (i : Int) - 1) ∧ 1 + x4 % (2 + (i : Int) - 1) < 2 + (i : Int) := by omega
        generalize 1 + x4 % (2 + (i : Int) - 1) = u at u1 u2 ⊢
        have hl4 := b4 l _ ndl.symm hl3
        have nlt : l ≠ t := ne_of_none hl4 nt
        refine ⟨l, _, _, rfl, rfl, (by rw [upd_ne nlt]; exact hl4), ?_, ?_⟩
        · rw [List.length_map, hP.length]
          exact Nat.lt_of_le_of_lt hlen (small1000 (by omega))
        · have hP5 : Prs (upd H4 t (.tup [.int u, .int (2 + (i : Int))])) (ts ++ [t]) (es ++ [(u, 2 + (i : Int))]) :=
            Prs.snoc ((hP.keep fun a xs e => b4 a _ (fun z => by
              subst z
              obtain ⟨_, _, e', _⟩ := d3
              rw [e'] at e
              cases e) e).keep fun a xs e => by rw [upd_ne (ne_of_none e nt)]; exact e) upd_same
          have hl5 : (upd H4 t (.tup [.int u, .int (2 + (i : Int))])) l = some (.lst (ts.map V.ref)) := by
            rw [upd_ne nlt]
            exact hl4
          refine ⟨ts ++ [t], es ++ [(u, 2 + (i : Int))], k' + 1, _, v7, v8, v9, rfl, ((b3.trans b4).new nt).mutN nl0, ?_, hP5.upd (fun xs z => by rw [hl5] at z; cases z), ?_, by omega, ?_, ?_⟩
          · rw [upd_same, map_snoc]
          · have ndt : d ≠ t := fun z => d4.is (H' := H4) (z ▸ nt)
            exact d4.keep fun o e => by
              rw [upd_ne ndl, upd_ne ndt]
              exact e
          · rw [List.length_append]
            exact Nat.succ_le_succ hlen
          · intro e he
            rcases List.mem_append.mp he with he | he
            · exact hI e he
            · rw [List.mem_singleton.mp he]
              exact ⟨u1, u2, by show 2 + (i : Int) ≤ n; omega⟩
      · exact ⟨ts, es, k', _, v7, v8, v9, rfl, b3, hl3, hP, d3, by omega, by omega, hI⟩
    · rintro σ H3 ⟨ts, es, k', v6, v7, v8, v9, rfl, b3, hl3, hP, d3, hk', hlen, hI⟩
      rw [en] at hk' hlen
      have hk3 : k' ≤ k + 20 := by omega
      have hlen3 : es.length ≤ 16 := by omega
      clear hk' hlen B2 hl2 d2
      -- the second loop
      refine ⟨_, rfl, kind, 3, rfl, rfl, _, rfl, ?_⟩
      refine if_via (fun v H4 => ∃ (j : Int) (k4 : Nat), v = .int j ∧ 0 ≤ j ∧ j ≤ many ∧ k4 ≤ k + 21 ∧ SameBut (· = d) H H4 ∧ H4 l = some (.lst (ts.map V.ref)) ∧ Prs H4 ts es ∧ Drw H4 d k4) ?_ (fun _ key => ?_) (fun _ key => ?_)
      · rintro v H4 ⟨j, k4, rfl, j0, jm, hk4, b4, hl4, hP4, d4⟩
        clear hl3 hP d3 b3
        refine ⟨j, rfl, by omega, by omega, ?_⟩
        refine for_range (lo := 0) (n := j.toNat) (fun i σ H' => ∃ (l : Addr) (ts : List Addr) (es : List (Int × Int)) (k' : Nat) (v6 v7 v8 v9 : Option V), σ = [some (.ref d), some (.int most), some (.int many), some (.int n), some (.ref l), some (.int kind), v6, v7, v8, v9] ∧
            SameBut (· = d) H H' ∧ H l = none ∧ H' l = some (.lst (ts.map V.ref)) ∧ Prs H' ts es ∧ Drw H' d k' ∧ k' ≤ k + 21 + 2 * i ∧ es.length ≤ 16 + i ∧ Inb n es)
          ⟨l, ts, es, k4, v6, v7, v8, v9, rfl, b4, nl0, hl4, hP4, d4, by omega, by omega, hI⟩ ?_ ?_
        · clear hl4 hP4 d4 b4 hlen3 hI hk4 hk3 nl0 ndl
          rintro i σ H5 hi ⟨l, ts, es, k', v6, v7, v8, v9, rfl, b5, nl, hl5, hP, d5, hk', hlen, hI⟩
          have dl : ∀ {H' : Hp} {k1 : Nat}, Drw H' d k1 → ∀ {a : Addr} {xs : List V}, H' a = some (.tup xs) → a ≠ d := fun D a xs e z => by
            subst z
            obtain ⟨_, _, e', _⟩ := D
            rw [e'] at e
            cases e
          have ld : l ≠ d := fun z => by
            subst z
            exact hd.is (H' := H) nl
          refine ⟨_, rfl, d, k', rfl, d5, by omega, fun H6 x6 b6 d6 z6 => .inl ⟨x6, rfl, ?_⟩⟩
          refine ⟨_, rfl, x6, n, rfl, rfl, (by show 0 < n; omega), ?_⟩
          refine ⟨1, x6 % n, rfl, rfl, ?_⟩
          have e1 := Int.emod_nonneg x6 (show n ≠ 0 by omega)
          have e2 := Int.emod_lt_of_pos x6 (show 0 < n by omega)
          dsimp only
          obtain ⟨u1, u2⟩ : 1 ≤ 1 + x6 % n ∧ 1 + x6 % n ≤ n := by omega
          generalize 1 + x6 % n = u at u1 u2 ⊢
          clear e1 e2
          refine ⟨_, rfl, d, k' + 1, rfl, d6, by omega, fun H7 x7 b7 d7 z7 => .inl ⟨x7, rfl, ?_⟩⟩
          refine ⟨_, rfl, x7, n, rfl, rfl, (by show 0 < n; omega), ?_⟩
          refine ⟨1, x7 % n, rfl, rfl, ?_⟩
          have e1 := Int.emod_nonneg x7 (show n ≠ 0 by omega)
          have e2 := Int.emod_lt_of_pos x7 (show 0 < n by omega)
          dsimp only
          obtain ⟨w1, w2⟩ : 1 ≤ 1 + x7 % n ∧ 1 + x7 % n ≤ n := by omega
          generalize 1 + x7 % n = z at w1 w2 ⊢
          clear e1 e2
          have hl7 := b7 l _ ld (b6 l _ ld hl5)
          have hP7 : Prs H7 ts es := hP.keep fun a xs e => b7 a _ (dl d5 e) (b6 a _ (dl d5 e) e)
          have B7 := (b5.trans b6).trans b7
          clear b7 b6 b5 hl5 hP d6 d5
          -- told + [(min, max)] * int(one != two)
          refine ⟨_, rfl, _, rfl, _, rfl, u, z, rfl, _, rfl, _, rfl, u, z, rfl, ?_⟩
          refine ⟨by show 2 ≤ sizeLine; decide, fun t nt => ?_⟩
          refine ⟨by show 1 ≤ sizeLine; decide, fun L nL => ?_⟩
          refine ⟨_, rfl, _, rfl, rfl, .inr ⟨_, rfl, ?_⟩⟩
          have hLt : (upd H7 t (.tup [.int (if z < u then z else u), .int (if z > u then z else u)])) t = some (.tup [.int (if z < u then z else u), .int (if z > u then z else u)]) := upd_same
          have B8 : SameBut (· = d) H (upd H7 t (.tup [.int (if z < u then z else u), .int (if z > u then z else u)])) := B7.new nt
          have hl8 : (upd H7 t (.tup [.int (if z < u then z else u), .int (if z > u then z else u)])) l = some (.lst (ts.map V.ref)) := by
            rw [upd_ne (ne_of_none hl7 nt)]
            exact hl7
          have hP8 : Prs (upd H7 t (.tup [.int (if z < u then z else u), .int (if z > u then z else u)])) ts es := hP7.keep fun a xs e => by
            rw [upd_ne (ne_of_none e nt)]
            exact e
          have d8 : Drw (upd H7 t (.tup [.int (if z < u then z else u), .int (if z > u then z else u)])) d (k' + 1 + 1) := d7.keep fun o e => by
            rw [upd_ne (ne_of_none e nt)]
            exact e
          generalize upd H7 t (.tup [.int (if z < u then z else u), .int (if z > u then z else u)]) = H8 at nL hLt B8 hl8 hP8 d8 ⊢
          have s9 : Same H8 (upd H8 L (.lst [.ref t])) := same_upd nL
          refine ⟨L, if (!decide (V.int u = V.int z)) = true then 1 else 0, _, rfl, rfl, upd_same, ?_, ?_, ?_, fun R nR => ?_⟩
          · split <;> decide
          · split <;> decide
          · show 1 * _ ≤ sizeLine
            split <;> decide
          · have s10 : Same (upd H8 L (.lst [.ref t])) (upd (upd H8 L (.lst [.ref t])) R (.lst (List.replicate (if (!decide (V.int u = V.int z)) = true then 1 else 0 : Int).toNat [.ref t]).flatten)) := same_upd nR
            refine ⟨l, R, _, _, rfl, rfl, s10 _ _ (s9 _ _ hl8), upd_same, ?_, fun M nM => ?_⟩
            · have h1 : ((List.replicate (if (!decide (V.int u = V.int z)) = true then 1 else 0 : Int).toNat [V.ref t]).flatten).length ≤ 1 := by
                split <;> simp
              rw [List.length_map, hP8.length]
              exact Nat.le_trans (Nat.add_le_add hlen h1) (Nat.le_of_lt (small1000 (by omega)))
            · have s11 := (s9.trans s10).trans (same_upd (o := .lst (ts.map V.ref ++ (List.replicate (if (!decide (V.int u = V.int z)) = true then 1 else 0 : Int).toNat [V.ref t]).flatten)) nM)
              have B9 : SameBut (· = d) H _ := B8.trans (Same.but s11)
              by_cases huz : u = z
              · refine ⟨M, ts, es, k' + 1 + 1, v6, _, _, _, rfl, B9, ?_, ?_, hP8.keep fun a xs e => s11 _ _ e, d8.keep fun o e => s11 _ _ e, by omega, by omega, hI⟩
                · exact B8.freshN (fun b e => e ▸ d8.is (H' := H8)) ((s9.trans s10).free nM)
                · rw [upd_same, huz]
                  simp
              · refine ⟨M, ts ++ [t], es ++ [(if z < u then z else u, if z > u then z else u)], k' + 1 + 1, v6, _, _, _, rfl, B9, ?_, ?_, Prs.snoc (hP8.keep fun a xs e => s11 _ _ e) (s11 _ _ hLt), d8.keep fun o e => s11 _ _ e, by omega, ?_, ?_⟩
                · exact B8.freshN (fun b e => e ▸ d8.is (H' := H8)) ((s9.trans s10).free nM)
                · have e0 : (!decide (V.int u = V.int z)) = true := by
                    rw [decide_eq_false (fun e => huz (V.int.inj e))]
                    rfl
                  rw [upd_same, if_pos e0, map_snoc]
                  rfl
                · rw [List.length_append]
                  exact Nat.succ_le_succ hlen
                · intro e he
                  rcases List.mem_append.mp he with he | he
                  · exact hI e he
                  · rw [List.mem_singleton.mp he]
                    show 1 ≤ (if z < u then z else u) ∧ (if z < u then z else u) < (if z > u then z else u) ∧ (if z > u then z else u) ≤ n
                    split <;> split <;> omega
        · rintro σ H5 ⟨l, ts, es, k', v6, v7, v8, v9, rfl, b5, nl, hl5, hP, d5, hk', hlen, hI⟩
          obtain ⟨ks, g1, g2, g3⟩ := hP.keys
          refine ⟨_, rfl, _, rfl, l, ks, rfl, sqL_of (by rw [g1]; exact hl5), ?_, by omega, fun a L na hsub hall => ?_⟩
          · intro p hp
            obtain ⟨e, _, e2, e3⟩ := g3 p hp
            rw [e2]
            exact sqT_of e3
          · have s6 : Same H5 (upd H5 a (SetTO P w a L)) := same_upd na
            have inL : ∀ p ∈ L, ∃ e ∈ es, p.2 = [e.1, e.2] ∧ (upd H5 a (SetTO P w a L)) p.1 = some (.tup [.int e.1, .int e.2]) := fun p hp => by
              obtain ⟨e, m, e2, e3⟩ := g3 p (hsub p hp)
              exact ⟨e, m, e2, s6 _ _ e3⟩
            refine ⟨a, L, 2, 64, rfl, upd_same, ?_, by decide, ?_, fun L' p perm nd few pw np => ?_⟩
            · intro p hp
              obtain ⟨e, _, e2, e3⟩ := inL p hp
              rw [e2]
              exact sqT_of e3
            · intro p hp
              obtain ⟨e, m, e2, e3⟩ := inL p hp
              obtain ⟨i1, i2, i3⟩ := hI e m
              rw [e2]
              refine ⟨rfl, ?_⟩
              intro x hx
              rcases List.mem_cons.mp hx with rfl | hx
              · omega
              · rw [List.mem_singleton.mp hx]
                omega
            · have s7 := s6.trans (same_upd (o := .lst (L'.map fun q => V.ref q.1)) np)
              obtain ⟨w1, w2, w3⟩ := sorted_web (H := upd (upd H5 a (SetTO P w a L)) p (.lst (L'.map fun q => V.ref q.1))) (n := n) (by omega) (fun r hr => by
                obtain ⟨e, m, e2, e3⟩ := inL r (perm.mem_iff.mp hr)
                obtain ⟨i1, i2, i3⟩ := hI e m
                exact ⟨e.1, e.2, e2, i1, i2, i3, same_upd np _ _ e3⟩) nd pw
              refine ⟨by show 2 ≤ sizeLine; decide, fun t nt => ?_⟩
              have s8 := s7.trans (same_upd (o := .tup [.int n, .ref p]) nt)
              refine q _ t p n (L'.map (·.1)) _ k' (b5.trans (Same.but s8)) ?_ ?_ upd_same ?_ (w1.keep fun b xs e => same_upd nt _ _ e) (d5.keep fun o e => s8 _ _ e) (by omega) n1 n2 (by rw [List.length_map]; exact few) w2 w3
              · exact b5.freshN (fun b e => e ▸ d5.is (H' := H5)) (s7.free nt)
              · exact b5.freshN (fun b e => e ▸ d5.is (H' := H5)) (s6.free np)
              · rw [upd_ne (ne_of_none upd_same nt), upd_same, List.map_map]
                rfl
      · refine ⟨_, rfl, d, k', rfl, d3, by omega, fun H4 x4 b4 d4 z4 => .inl ⟨x4, rfl, ?_⟩⟩
        refine ⟨_, rfl, many, 1, rfl, rfl, x4, many + 1, rfl, rfl, (by show 0 < many + 1; omega), ?_⟩
        refine key _ _ ⟨x4 % (many + 1), k' + 1, rfl, Int.emod_nonneg _ (by omega), ?_, by omega, b3.trans b4, b4 l _ ndl.symm hl3, ?_, d4⟩
        · have := Int.emod_lt_of_pos x4 (show 0 < many + 1 by omega)
          omega
        · exact hP.keep fun a xs e => b4 a _ (fun z => by
            subst z
            obtain ⟨_, _, e', _⟩ := d3
            rw [e'] at e
            cases e) e
      · exact key _ _ ⟨0, k', rfl, by omega, y1, by omega, b3, hl3, hP, d3⟩
end
end Un

set_option maxRecDepth 100000
set_option maxHeartbeats 8000000
namespace Un
open PySem PySem.Spec PyProof.Rows L2
theorem hu3 {k : Nat} {A : Around} (hr : Room k A) : A.units + 3 < cLine := Nat.lt_of_le_of_lt (Nat.add_le_add_left (by decide) _) hr.units
theorem Prs.erase {H : Hp} : ∀ {ts : List Addr} {es : List (Int × Int)} (i : Nat), Prs H ts es → Prs H (ts.eraseIdx i) (es.eraseIdx i)
  | _, _, i, .nil => (show Prs H [] [] from .nil)
  | _, _, 0, .cons _ q => q
  | _, _, i + 1, .cons r q => .cons r (Prs.erase i q)
theorem map_erase {α β : Type} (f : α → β) : ∀ (l : List α) (i : Nat), (l.map f).eraseIdx i = (l.eraseIdx i).map f
  | [], i => by simp
  | _ :: _, 0 => rfl
  | x :: l, i + 1 => by
    show f x :: (l.map f).eraseIdx i = f x :: (l.eraseIdx i).map f
    rw [map_erase f l i]
theorem ix_mod {x : Int} {n : Nat} (h : 0 < n) : seqIndex? (x % (n : Int)) n = some (x % (n : Int)).toNat ∧ (x % (n : Int)).toNat < n := by
  have e1 := Int.emod_nonneg x (show (n : Int) ≠ 0 by omega)
  have e2 := Int.emod_lt_of_pos x (show (0 : Int) < n by omega)
  have e : ixN n (x % (n : Int)) = some (x % (n : Int)).toNat := by
    unfold ixN
    rw [if_pos e1, if_pos e2]
  exact ⟨(ixN_seq e).1, by omega⟩
def lenAt (H : Hp) (v : Option (Option V)) : Nat := match v with
  | some (some (.ref l)) => match H l with
    | some (.lst xs) => xs.length
    | _ => 0
  | _ => 0
section
variable {P : Program} {w : World} {K : PySem.W.Frag} {mg : Str → Option Value} {base : Heap}
def spLog : Sp := fun vs H Q _ => ∃ (d a : Addr) (k : Nat) (es : List (Int × Int)), vs = [.ref d, .ref a] ∧ Drw H d k ∧ k < 2 ^ 20 ∧ WebL H a es ∧ es.length < 64 ∧ (∀ e ∈ es, e.1.natAbs < 10 ^ 12 ∧ e.2.natAbs < 10 ^ 12) ∧
  ∀ (H' : Hp) (p : Addr) (es' : List (Int × Int)) (k' : Nat), SameBut (· = d) H H' → H p = none → WebL H' p es' → es'.Perm es → Drw H' d k' → k' ≤ k + 64 → Q (.ref p) H'
theorem ok_l_log {f : Addr} {fd : FuncData} (F : Fun K "_law_log" "_law_log" s_l_log f fd) (T : Txt mg) (c : C8.Cal P w K mg base 1 "_law_next" spNext []) : FnOk P w K mg base CX0 2 f fd ["_law_draws_here", "_law_some"] spLog := by
  refine F.ok sc_l_log (fun vs H Q E h => ?_) (fun cdv A outer s H vs Q E hr h => ?_)
  · obtain ⟨d, a, k, es, rfl, _⟩ := h
    rfl
  · obtain ⟨d, a, k, es, rfl, hd, hk, ⟨ts, ha, hP⟩, hl, hB, q⟩ := h
    refine ⟨_, (pss_cons (ps_set (i := 2) sc_l_log.nd rfl (by first | exact Or.inl rfl | exact Or.inr rfl) (pe_callTy call_list_of (by rfl) T.n_list (by decide +kernel) (pa_cons (pv 1) pa_nil)))
      (pss_cons (ps_set (i := 3) sc_l_log.nd rfl (by first | exact Or.inl rfl | exact Or.inr rfl) (pe_lst pa_nil))
      (pss_cons (ps_while PassesOwn.never (pt_cmpR (op_neD hr.units) (pv 2) (pe_lst pa_nil) (by rfl)) (pss_one (ps_expr (pe_bm PySem.F.plainAttrs_list PySem.F.slot_list_append PySem.F.type_list_append mt_append (pv 3) (pa_cons (pe_bm PySem.F.plainAttrs_list PySem.F.slot_list_pop PySem.F.type_list_pop mt_popAt (pv 2) (pa_cons (pe_op op_mod (pe_callTy call_int1 (by rfl) T.n_int (by decide +kernel) (pa_cons (C8.pe_c c hr (by decide) (by rfl) (pa_cons (pv 0) pa_nil)) pa_nil)) (pe_callB call_len_seq (by rfl) T.n_len (by decide +kernel) (pa_cons (pv 2) pa_nil))) pa_nil)) pa_nil)))))
      (pss_one (ps_ret (pv 3)))))), ?_⟩
    refine ⟨_, rfl, a, _, rfl, .inl (sqL_of ha), fun l nl => ?_⟩
    have s1 := same_upd (o := .lst (ts.map V.ref)) nl
    refine ⟨Nat.zero_le _, fun r nr => ?_⟩
    have s2 := same_upd (o := .lst []) nr
    have nlr : l ≠ r := fun z => by
      rw [← z, upd_same] at nr
      cases nr
    have nld : l ≠ d := fun z => hd.is (H' := H) (z ▸ nl)
    have nrd : r ≠ d := fun z => hd.is (H' := H) (s1.free (z ▸ nr))
    have nr0 := s1.free nr
    refine while_by (fun σ H' => ∃ (ts1 ts2 : List Addr) (es1 es2 : List (Int × Int)) (k' : Nat), σ = [some (.ref d), some (.ref a), some (.ref l), some (.ref r)] ∧ SameBut (· = d) H H' ∧ H' l = some (.lst (ts1.map V.ref)) ∧ Prs H' ts1 es1 ∧
        H' r = some (.lst (ts2.map V.ref)) ∧ Prs H' ts2 es2 ∧ (es2 ++ es1).Perm es ∧ Drw H' d k' ∧ k' ≤ k + es2.length) (fun σ H' => lenAt H' σ[2]?)
      ⟨ts, [], es, [], k, rfl, Same.but (s1.trans s2), s2 _ _ upd_same, hP.keep fun t xs e => s2 _ _ (s1 _ _ e), upd_same, .nil, List.Perm.refl _, hd.keep fun o e => s2 _ _ (s1 _ _ e), Nat.le_refl _⟩ ?_ ?_
    · rintro σ H1 ⟨ts1, ts2, es1, es2, k', rfl, b1, h1, P1, h2, P2, pm, dr, hk'⟩
      have lsum : es2.length + es1.length = es.length := by
        rw [← List.length_append]
        exact pm.length_eq
      have hB1 : ∀ e ∈ es1, e.1.natAbs < 10 ^ 12 ∧ e.2.natAbs < 10 ^ 12 := fun e he => hB e (pm.mem_iff.mp (List.mem_append_right _ he))
      refine ⟨_, rfl, Nat.zero_le _, fun L nL => ?_⟩
      have s3 := same_upd (o := .lst []) nL
      have fW : Fine 2 (64 * 3) (dW es1) := fine_W hB1 (by omega)
      have fN : Fine 1 0 (.list []) := (Fine.list (D := 0) (m := 0) (L := 0) (ds := []) (fun d hd => (List.not_mem_nil hd).elim) (Nat.le_refl _)).mono (Nat.le_refl _) (by decide)
      refine ⟨dW es1, .list [], .lst (sqL_of (s3 _ _ h1)) (dp_prs (P1.keep fun t xs e => s3 _ _ e)), .lst (sqL_of upd_same) .nil, fW.shaped (by decide), fN.shaped (by decide), _, rfl, ?_⟩
      have ev : (!PyData.eqv (dW es1) (.list [])) = !es1.isEmpty := by
        cases es1 with
        | nil => rfl
        | cons e es1 => rfl
      rw [ev]
      cases es1 with
      | nil =>
        refine iteF ?_
        rw [List.append_nil] at pm
        refine ⟨_, rfl, q _ r es2 k' (b1.trans (Same.but s3)) nr0 ⟨ts2, s3 _ _ h2, P2.keep fun t xs e => s3 _ _ e⟩ pm (dr.keep fun o e => s3 _ _ e) ?_⟩
        rw [List.length_nil] at lsum
        omega
      | cons e0 es1' =>
        refine iteT ?_
        have s13 : ∀ t xs, H1 t = some (.tup xs) → (upd H1 L (.lst [])) t = some (.tup xs) := fun t xs e => s3 _ _ e
        have pos : 0 < (e0 :: es1').length := Nat.succ_pos _
        generalize e0 :: es1' = es1 at *
        refine ⟨_, rfl, .inl ⟨rfl, _, sqL_of (s3 _ _ h2)⟩, _, rfl, .inl ⟨rfl, _, sqL_of (s3 _ _ h1)⟩, ?_⟩
        refine ⟨_, rfl, d, k', rfl, dr.keep fun o e => s3 _ _ e, by omega, fun H2 x b2 dr2 z2 => .inl ⟨x, rfl, ?_⟩⟩
        have h12 := b2 _ _ nld (s3 _ _ h1)
        have h22 := b2 _ _ nrd (s3 _ _ h2)
        have keepT : ∀ t xs, H1 t = some (.tup xs) → H2 t = some (.tup xs) := fun t xs e => b2 _ _ (fun z => by
          subst z
          obtain ⟨_, _, e', _⟩ := dr
          rw [e'] at e
          cases e) (s3 _ _ e)
        have P12 := P1.keep keepT
        have P22 := P2.keep keepT
        have B2 := (b1.trans (Same.but s3)).trans b2
        refine ⟨_, rfl, l, _, rfl, .inl (sqL_of h12), x, _, rfl, rfl, (by show (0 : Int) < ((ts1.map V.ref).length : Nat); rw [List.length_map, P1.length]; omega), ?_⟩
        have el : (ts1.map V.ref).length = es1.length := by rw [List.length_map, P1.length]
        obtain ⟨i1, i2⟩ := ix_mod (x := x) pos
        have e1 := Int.emod_nonneg x (show (es1.length : Int) ≠ 0 by omega)
        have e2 := Int.emod_lt_of_pos x (show (0 : Int) < es1.length by omega)
        have ht : ts1[(x % (es1.length : Int)).toNat]? = some ts1[(x % (es1.length : Int)).toNat]! := by
          rw [getElem!_pos ts1 _ (by rw [P1.length]; exact i2)]
          exact List.getElem?_eq_getElem _
        generalize ts1[(x % (es1.length : Int)).toNat]! = t at ht
        obtain ⟨e, he, hte⟩ := P12.get ht
        refine ⟨l, _, x % ((ts1.map V.ref).length : Nat), (x % (es1.length : Int)).toNat, .ref t, rfl, rfl, h12, ?_, ?_, ?_, ?_, ?_⟩
        · rw [el]
          omega
        · rw [el]
          omega
        · rw [el]
          exact i1
        · rw [List.getElem?_map, ht] <;> rfl
        · rw [map_erase]
          generalize (x % (es1.length : Int)).toNat = j at he ht i2 ⊢
          have h13 : (upd H2 l (.lst ((ts1.eraseIdx j).map V.ref))) l = some (.lst ((ts1.eraseIdx j).map V.ref)) := upd_same
          have h23 : (upd H2 l (.lst ((ts1.eraseIdx j).map V.ref))) r = some (.lst (ts2.map V.ref)) := by
            rw [upd_ne nlr.symm]
            exact h22
          have B3 : SameBut (· = d) H (upd H2 l (.lst ((ts1.eraseIdx j).map V.ref))) := B2.mutN nl
          have Q1 : Prs (upd H2 l (.lst ((ts1.eraseIdx j).map V.ref))) (ts1.eraseIdx j) (es1.eraseIdx j) := (P12.erase j).upd fun xs z => by rw [h12] at z; cases z
          have Q2 : Prs (upd H2 l (.lst ((ts1.eraseIdx j).map V.ref))) (ts2 ++ [t]) (es2 ++ [e]) := (P22.snoc hte).upd fun xs z => by rw [h12] at z; cases z
          have D3 : Drw (upd H2 l (.lst ((ts1.eraseIdx j).map V.ref))) d (k' + 1) := dr2.keep fun o z => by
            rw [upd_ne nld.symm]
            exact z
          generalize upd H2 l (.lst ((ts1.eraseIdx j).map V.ref)) = H3 at h13 h23 B3 Q1 Q2 D3 ⊢
          refine ⟨r, _, _, rfl, rfl, h23, ?_, ⟨ts1.eraseIdx j, ts2 ++ [t], es1.eraseIdx j, es2 ++ [e], k' + 1, rfl, B3.mutN nr0, ?_, Q1.upd (fun xs z => by rw [h23] at z; cases z), ?_, Q2.upd (fun xs z => by rw [h23] at z; cases z), ?_, ?_, ?_⟩, ?_⟩
          · rw [List.length_map, P2.length]
            exact small1000 (by omega)
          · rw [upd_ne nlr]
            exact h13
          · rw [upd_same, map_snoc]
          · rw [List.append_assoc]
            exact (List.Perm.append_left es2 (erase_perm es1 j e he)).trans pm
          · exact D3.keep fun o z => by
              rw [upd_ne nrd.symm]
              exact z
          · rw [List.length_append]
            show k' + 1 ≤ k + (es2.length + 1)
            omega
          · show lenAt _ (some (some (.ref l))) < lenAt _ (some (some (.ref l)))
            unfold lenAt
            dsimp only
            rw [upd_ne nlr, h13, h1]
            dsimp only
            rw [List.length_map, List.length_map, List.length_eraseIdx]
            have := P1.length
            split <;> omega
    · rintro σ H1 Q1 Q2 imp ⟨v, e, h0, h⟩
      refine ⟨v, e, h0, fun p hp => ?_⟩
      obtain ⟨d1, d2, a1, a2, a3, a4, k1, e1, q1⟩ := h p hp
      exact ⟨d1, d2, a1, a2, a3, a4, k1, e1, imp _ _ q1⟩
end
end Un

set_option maxRecDepth 100000
set_option maxHeartbeats 8000000
namespace Un
open PySem PySem.Spec PyProof.Rows L2
section
variable {P : Program} {w : World} {K : PySem.W.Frag} {mg : Str → Option Value} {base : Heap}
def spChkLog (K : PySem.W.Frag) : Sp := fun vs H Q _ => ∃ (n : Int) (a : Addr) (es : List (Int × Int)), vs = [.int n, .ref a] ∧ WebL H a es ∧ es.Nodup ∧ es.length < 64 ∧ Inb n es ∧ ∀ H', Same H H' → Q .non H'
theorem ok_check_log {f : Addr} {fd : FuncData} (F : Fun K "check_log" "check_log" s_check_log f fd) (T : Txt mg) (c : C8.Cal P w K mg base 3 "is_exchange" (spExch K) []) : FnOk P w K mg base CX0 4 f fd ["cells", "log"] (spChkLog K) := by
  refine F.ok sc_check_log (fun vs H Q E h => ?_) (fun cdv A outer s H vs Q E hr h => ?_)
  · obtain ⟨n, a, es, rfl, _⟩ := h
    rfl
  · obtain ⟨n, a, es, rfl, ⟨ts, ha, hP⟩, hN, hl, hI, q⟩ := h
    refine ⟨_, (pss_cons (ps_if (pt_not (pt_val (pe_callB call_isi (by rfl) T.n_isinstance (by decide +kernel) (pa_cons (pv 1) (pa_cons (pe_bltn (v := .ty "list") (by rfl) T.n_list (by decide +kernel) rfl) pa_nil))))) (pss_one ps_never) pss_nil)
      (pss_cons (ps_set (i := 2) sc_check_log.nd rfl (by first | exact Or.inl rfl | exact Or.inr rfl) (pe_callTy0 cr_set0T (by rfl) T.n_set (by decide +kernel)))
      (pss_one (ps_for PassesOwn.never rfl (pi_enum (by rfl) T.n_enumerate (pa_cons (pv 1) pa_nil)) (pg_tup rfl (pgs_cons (pg_name (i := 3) sc_check_log.nd rfl (by first | exact Or.inl rfl | exact Or.inr rfl)) (pgs_cons (pg_name (i := 4) sc_check_log.nd rfl (by first | exact Or.inl rfl | exact Or.inr rfl)) pgs_nil))) (pss_cons (ps_if (PW.pt (pw_or (pt_not (pt_val (C8.pe_c c hr (by decide) (by rfl) (pa_cons (pv 0) (pa_cons (pv 4) pa_nil))))) (pw_or1 (pt_cmpR (or_tIn (hu3 hr)) (pv 4) (pv 2) (by rfl))))) (pss_one ps_never) pss_nil)
        (pss_one (ps_expr (pe_tAdd (hu3 hr) (pv 2) (pa_cons (pv 4) pa_nil))))))))), ?_⟩
    refine ⟨_, rfl, .ref a, .ty "list", .type "list", .type "list", true, rfl, .ty _, .base (.lst ha), kit_ty (by decide +kernel), true, rfl, iteF ?_⟩
    refine ⟨rfl, fun S nS => ?_⟩
    have s0 : Same H (upd H S (SetTO P w S [])) := same_upd nS
    refine ⟨_, rfl, a, ts.map V.ref, rfl, sqL_of (s0 _ _ ha), ?_⟩
    refine for_enum (K := K) (a := a) (xs := ts.map V.ref) (fun i σ H' => ∃ (L : List (Addr × List Int)) (v3 v4 : Option V), σ = [some (.int n), some (.ref a), some (.ref S), v3, v4] ∧ Same H H' ∧ H' S = some (SetTO P w S L) ∧ L.length = i ∧
        ∀ p ∈ L, ∃ (j : Nat) (e : Int × Int), j < i ∧ es[j]? = some e ∧ p.2 = [e.1, e.2] ∧ H' p.1 = some (.tup [.int e.1, .int e.2])) ⟨[], none, none, rfl, s0, upd_same, rfl, fun p hp => (List.not_mem_nil hp).elim⟩ ?_ ?_ ?_
    · rintro i σ H' _ ⟨_, _, _, _, s1, _⟩
      exact sqL_of (s1 _ _ ha)
    · rintro i x Tt σ H' hx ⟨L, v3, v4, rfl, s1, hS, hL, hin⟩ nT
      have hi : i < es.length := by
        have z := (List.getElem?_eq_some_iff.mp hx).1
        rw [List.length_map, hP.length] at z
        exact z
      rw [List.getElem?_map] at hx
      obtain ⟨t, ht, rfl⟩ := Option.map_eq_some_iff.mp hx
      obtain ⟨e, he, hte⟩ := hP.get ht
      obtain ⟨i1, i2, i3⟩ := hI e (List.mem_of_getElem? he)
      have s2 : Same H' (upd H' Tt (.tup [.int (i : Nat), .ref t])) := same_upd nT
      have hte2 := s2 _ _ (s1 _ _ hte)
      have hS2 := s2 _ _ hS
      have hin2 : ∀ p ∈ L, ∃ (j : Nat) (e : Int × Int), j < i ∧ es[j]? = some e ∧ p.2 = [e.1, e.2] ∧ (upd H' Tt (.tup [.int (i : Nat), .ref t])) p.1 = some (.tup [.int e.1, .int e.2]) := fun p hp => by
        obtain ⟨j, e', a1, a2, a3, a4⟩ := hin p hp
        exact ⟨j, e', a1, a2, a3, s2 _ _ a4⟩
      have no : [e.1, e.2] ∉ L.map (·.2) := fun m => by
        obtain ⟨p, hp, ep⟩ := List.mem_map.mp m
        obtain ⟨j, e', a1, a2, a3, _⟩ := hin p hp
        have ee : e' = e := by
          have z : [e'.1, e'.2] = [e.1, e.2] := a3.symm.trans ep
          injection z with z1 z2
          injection z2 with z2 _
          exact Prod.ext z1 z2
        have z := (List.getElem?_inj (i := j) (j := i) (by omega) hN).mp (by rw [a2, he, ee])
        omega
      have tups : ∀ p ∈ L, SqT K (upd H' Tt (.tup [.int (i : Nat), .ref t])) p.1 (p.2.map V.int) := fun p hp => by
        obtain ⟨j, e', _, _, a3, a4⟩ := hin2 p hp
        rw [a3]
        exact sqT_of a4
      refine ⟨Tt, _, rfl, sqT_of upd_same, rfl, _, _, rfl, _, _, rfl, rfl, ?_⟩
      refine ⟨_, rfl, _, rfl, n, e.1, e.2, t, rfl, hte2, i1, i2, i3, true, rfl, iteF ?_⟩
      refine ⟨_, rfl, _, rfl, t, S, [e.1, e.2], L, rfl, rfl, sqT_of hte2, hS2, tups, no, false, rfl, iteF ?_⟩
      refine ⟨_, rfl, ⟨S, L, rfl, hS2⟩, _, rfl, S, t, [e.1, e.2], L, rfl, rfl, sqT_of hte2, hS2, tups, by omega, no, fun L' pm => ?_⟩
      have keepT : ∀ b xs, (upd H' Tt (.tup [.int (i : Nat), .ref t])) b = some (.tup xs) → (upd (upd H' Tt (.tup [.int (i : Nat), .ref t])) S (SetTO P w S L')) b = some (.tup xs) := fun b xs z => by
        have nb : b ≠ S := fun y => by
          rw [y, hS2] at z
          cases z
        rw [upd_ne nb]
        exact z
      refine ⟨L', _, _, rfl, ?_, upd_same, ?_, fun p hp => ?_⟩
      · exact Same.mut (s1.trans s2) nS
      · rw [pm.length_eq, List.length_cons, hL]
      · rcases List.mem_cons.mp (pm.mem_iff.mp hp) with rfl | hp
        · exact ⟨i, e, Nat.lt_succ_self i, he, rfl, keepT _ _ hte2⟩
        · obtain ⟨j, e', a1, a2, a3, a4⟩ := hin2 p hp
          exact ⟨j, e', by omega, a2, a3, keepT _ _ a4⟩
    · rintro σ H' ⟨_, _, _, _, s1, _⟩
      exact q H' s1
end
end Un

set_option maxHeartbeats 1000000
namespace Un
/-! ### ways and orders: the mathematics -/
def nAt (names : List Int) (c : Int) : Int := names.getD c.toNat 0
def names0 (n : Int) : List Int := (List.range (n + 1).toNat).map fun (i : Nat) => (i : Int)
theorem names0_len (n : Int) : (names0 n).length = (n + 1).toNat := by
  unfold names0
  rw [List.length_map, List.length_range]
theorem nAt_names0 {n c : Int} (h0 : 0 ≤ c) (h : c ≤ n) : nAt (names0 n) c = c := by
  unfold nAt names0
  have hc : c.toNat < (n + 1).toNat := by omega
  rw [List.getD_eq_getElem?_getD, List.getElem?_map, List.getElem?_range hc]
  show ((c.toNat : Nat) : Int) = c
  omega
theorem nAt_set {held : List Int} {c d v : Int} (h0 : 0 ≤ c) (h1 : c < held.length) (d0 : 0 ≤ d) : nAt (held.set c.toNat v) d = if d = c then v else nAt held d := by
  unfold nAt
  rw [List.getD_eq_getElem?_getD, List.getD_eq_getElem?_getD, List.getElem?_set]
  by_cases e : d = c
  · subst e
    rw [if_pos rfl, if_pos rfl, if_pos (by omega)] <;> rfl
  · rw [if_neg (by omega), if_neg e]
def lst (w : List Int) : Int := w.getLastD 0
theorem lst_snoc (w : List Int) (x : Int) : lst (w ++ [x]) = x := by
  unfold lst
  rw [List.getLastD_eq_getLast?, List.getLast?_append] <;> rfl
def row (xss : List (List Int)) (c : Int) : List Int := xss.getD (c - 1).toNat []
def put (xss : List (List Int)) (c v : Int) : List (List Int) := xss.set (c - 1).toNat (row xss c ++ [v])
theorem put_len (xss : List (List Int)) (c v : Int) : (put xss c v).length = xss.length := by
  unfold put
  rw [List.length_set]
theorem row_put {xss : List (List Int)} {c d v : Int} (c1 : 1 ≤ c) (c2 : c ≤ xss.length) (d1 : 1 ≤ d) : row (put xss c v) d = if d = c then row xss c ++ [v] else row xss d := by
  unfold put
  show (xss.set _ _).getD (d - 1).toNat [] = _
  rw [List.getD_eq_getElem?_getD, List.getElem?_set]
  by_cases e : d = c
  · subst e
    rw [if_pos rfl, if_pos rfl, if_pos (by omega)] <;> rfl
  · rw [if_neg (by omega), if_neg e]
    show _ = xss.getD _ _
    rw [List.getD_eq_getElem?_getD]
/-- an exchange, thing by thing -/
def wOne (e : Int × Int) (w : List Int) : List Int := if lst w = e.1 then w ++ [e.2] else if lst w = e.2 then w ++ [e.1] else w
def wStep (xss : List (List Int)) (e : Int × Int) : List (List Int) := xss.map (wOne e)
def ways0 (n : Int) : List (List Int) := (cs n).map fun c => [c]
def waysF (n : Int) (es : List (Int × Int)) : List (List Int) := es.foldl wStep (ways0 n)
def endsF (n : Int) (es : List (Int × Int)) : List Int := (waysF n es).map lst
def oStep (xss : List (List Int)) (e : Int × Int) : List (List Int) := put (put xss e.1 e.2) e.2 e.1
def ords0 (n : Int) : List (List Int) := (cs n).map fun _ => []
def ordF (n : Int) (es : List (Int × Int)) : List (List Int) := es.foldl oStep (ords0 n)
structure Held (n : Int) (xss : List (List Int)) (held : List Int) : Prop where
  lx : (xss.length : Int) = n
  lh : (held.length : Int) = n + 1
  at_ : ∀ c, 1 ≤ c → c ≤ n → 1 ≤ nAt held c ∧ nAt held c ≤ n ∧ lst (row xss (nAt held c)) = c
  of_ : ∀ i, 1 ≤ i → i ≤ n → 1 ≤ lst (row xss i) ∧ lst (row xss i) ≤ n ∧ nAt held (lst (row xss i)) = i
  ne : ∀ i, 1 ≤ i → i ≤ n → row xss i ≠ []
theorem row_ways0 {n i : Int} (h1 : 1 ≤ i) (h2 : i ≤ n) : row (ways0 n) i = [i] := by
  unfold row ways0
  have hi : (i - 1).toNat < n.toNat := by omega
  rw [List.getD_eq_getElem?_getD, List.getElem?_map]
  unfold cs
  rw [List.getElem?_map, List.getElem?_range hi]
  show [1 + (((i - 1).toNat : Nat) : Int)] = [i]
  congr 1
  omega
theorem ways0_len {n : Int} : (ways0 n).length = n.toNat := by
  unfold ways0
  rw [List.length_map, cs_len]
theorem Held.zero {n : Int} (hn : 0 ≤ n) : Held n (ways0 n) (names0 n) := by
  refine ⟨?_, ?_, ?_, ?_, ?_⟩
  · rw [ways0_len]
    omega
  · rw [names0_len]
    omega
  · intro c h1 h2
    rw [nAt_names0 (by omega) h2, row_ways0 h1 h2]
    exact ⟨h1, h2, rfl⟩
  · intro i h1 h2
    rw [row_ways0 h1 h2]
    show 1 ≤ i ∧ i ≤ n ∧ nAt (names0 n) i = i
    exact ⟨h1, h2, nAt_names0 (by omega) h2⟩
  · intro i h1 h2
    rw [row_ways0 h1 h2]
    exact fun z => nomatch z
theorem row_map {xss : List (List Int)} {f : List Int → List Int} {i : Int} (h1 : 1 ≤ i) (h2 : i ≤ xss.length) : row (xss.map f) i = f (row xss i) := by
  unfold row
  have hi : (i - 1).toNat < xss.length := by omega
  rw [List.getD_eq_getElem?_getD, List.getD_eq_getElem?_getD, List.getElem?_map, List.getElem?_eq_getElem hi] <;> rfl
theorem ext_row {xss yss : List (List Int)} (hl : xss.length = yss.length) (h : ∀ i : Int, 1 ≤ i → i ≤ xss.length → row xss i = row yss i) : xss = yss := by
  refine List.ext_getElem hl fun i h1 h2 => ?_
  have z := h (1 + (i : Int)) (by omega) (by omega)
  unfold row at z
  have e : (1 + (i : Int) - 1).toNat = i := by omega
  rw [e, List.getD_eq_getElem?_getD, List.getD_eq_getElem?_getD, List.getElem?_eq_getElem h1, List.getElem?_eq_getElem h2] at z
  exact z
/-- two rows grow: the rows of the things in both cells -/
theorem Held.step {n : Int} {xss : List (List Int)} {held : List Int} (h : Held n xss held) {e : Int × Int} (u1 : 1 ≤ e.1) (uv : e.1 < e.2) (v2 : e.2 ≤ n) :
    put (put xss (nAt held e.1) e.2) (nAt held e.2) e.1 = wStep xss e ∧ Held n (wStep xss e) ((held.set e.1.toNat (nAt held e.2)).set e.2.toNat (nAt held e.1)) ∧ nAt held e.1 ≠ nAt held e.2 := by
  have lx := h.lx
  have lh := h.lh
  obtain ⟨a1, a2, a3⟩ := h.at_ e.1 u1 (by omega)
  obtain ⟨b1, b2, b3⟩ := h.at_ e.2 (by omega) v2
  have ne : nAt held e.1 ≠ nAt held e.2 := fun z => by
    rw [z, b3] at a3
    omega
  have eq : put (put xss (nAt held e.1) e.2) (nAt held e.2) e.1 = wStep xss e := by
    refine ext_row ?_ ?_
    · rw [put_len, put_len]
      unfold wStep
      rw [List.length_map]
    · intro i i1 i2
      rw [put_len, put_len] at i2
      obtain ⟨c1, c2, c3⟩ := h.of_ i i1 (by omega)
      rw [row_put b1 (by rw [put_len]; omega) i1, row_put a1 (by omega) i1, row_put a1 (by omega) b1, if_neg ne.symm]
      unfold wStep
      rw [row_map i1 i2]
      unfold wOne
      by_cases e2 : i = nAt held e.2
      · rw [if_pos e2, e2, b3, if_neg (by omega), if_pos rfl]
      · rw [if_neg e2]
        by_cases e1 : i = nAt held e.1
        · rw [if_pos e1, e1, a3, if_pos rfl]
        · rw [if_neg e1, if_neg fun z => e1 (by rw [← z, c3]), if_neg fun z => e2 (by rw [← z, c3])]
  refine ⟨eq, ?_, ne⟩
  have hl1 : ((held.set e.1.toNat (nAt held e.2)).length : Int) = n + 1 := by
    rw [List.length_set]
    exact lh
  have hel : ∀ c, 0 ≤ c → nAt ((held.set e.1.toNat (nAt held e.2)).set e.2.toNat (nAt held e.1)) c = if c = e.2 then nAt held e.1 else if c = e.1 then nAt held e.2 else nAt held c := fun c c0 => by
    rw [nAt_set (by omega) (by omega) c0, nAt_set (by omega) (by omega) c0]
  have rw_ : ∀ i, 1 ≤ i → i ≤ n → row (wStep xss e) i = wOne e (row xss i) := fun i i1 i2 => row_map i1 (by omega)
  refine ⟨?_, ?_, ?_, ?_, ?_⟩
  · unfold wStep
    rw [List.length_map]
    exact lx
  · rw [List.length_set]
    exact hl1
  · intro c c1 c2
    rw [hel c (by omega)]
    by_cases e2 : c = e.2
    · rw [if_pos e2]
      refine ⟨a1, a2, ?_⟩
      rw [rw_ _ a1 a2]
      unfold wOne
      rw [if_pos a3, lst_snoc, e2]
    · rw [if_neg e2]
      by_cases e1 : c = e.1
      · rw [if_pos e1]
        refine ⟨b1, b2, ?_⟩
        rw [rw_ _ b1 b2]
        unfold wOne
        rw [b3, if_neg (by omega), if_pos rfl, lst_snoc, e1]
      · rw [if_neg e1]
        obtain ⟨d1, d2, d3⟩ := h.at_ c c1 c2
        refine ⟨d1, d2, ?_⟩
        rw [rw_ _ d1 d2]
        unfold wOne
        rw [d3, if_neg e1, if_neg e2, d3]
  · intro i i1 i2
    obtain ⟨c1, c2, c3⟩ := h.of_ i i1 i2
    rw [rw_ i i1 i2]
    unfold wOne
    by_cases e1 : lst (row xss i) = e.1
    · rw [if_pos e1, lst_snoc]
      refine ⟨by omega, v2, ?_⟩
      rw [hel _ (by omega), if_pos rfl, ← e1, c3]
    · rw [if_neg e1]
      by_cases e2 : lst (row xss i) = e.2
      · rw [if_pos e2, lst_snoc]
        refine ⟨u1, by omega, ?_⟩
        rw [hel _ (by omega), if_neg (by omega), if_pos rfl, ← e2, c3]
      · rw [if_neg e2]
        refine ⟨c1, c2, ?_⟩
        rw [hel _ (by omega), if_neg e2, if_neg e1, c3]
  · intro i i1 i2
    rw [rw_ i i1 i2]
    unfold wOne
    split
    · simp
    · split
      · simp
      · exact h.ne i i1 i2
/-- sizes -/
def Small (n : Int) (m : Nat) (xss : List (List Int)) : Prop := ∀ w ∈ xss, w.length ≤ m ∧ ∀ c ∈ w, 1 ≤ c ∧ c ≤ n
theorem Small.map {n : Int} {m : Nat} {xss : List (List Int)} (h : Small n m xss) {e : Int × Int} (u1 : 1 ≤ e.1) (uv : e.1 < e.2) (v2 : e.2 ≤ n) : Small n (m + 1) (wStep xss e) := by
  intro w hw
  obtain ⟨w', hw', rfl⟩ := List.mem_map.mp hw
  obtain ⟨h1, h2⟩ := h w' hw'
  unfold wOne
  split
  · refine ⟨by rw [List.length_append]; exact Nat.succ_le_succ h1, fun c hc => ?_⟩
    rcases List.mem_append.mp hc with hc | hc
    · exact h2 c hc
    · rw [List.mem_singleton.mp hc]
      omega
  · split
    · refine ⟨by rw [List.length_append]; exact Nat.succ_le_succ h1, fun c hc => ?_⟩
      rcases List.mem_append.mp hc with hc | hc
      · exact h2 c hc
      · rw [List.mem_singleton.mp hc]
        omega
    · exact ⟨by omega, h2⟩
theorem Small.put {n : Int} {m : Nat} {xss : List (List Int)} (h : Small n m xss) {c v : Int} (v1 : 1 ≤ v) (v2 : v ≤ n) (hc1 : 1 ≤ c) (hc2 : c ≤ xss.length) : Small n (m + 1) (put xss c v) := by
  intro w hw
  have hr : row xss c ∈ xss := by
    unfold row
    rw [List.getD_eq_getElem?_getD, List.getElem?_eq_getElem (show (c - 1).toNat < xss.length by omega)]
    exact List.getElem_mem _
  rcases List.mem_or_eq_of_mem_set hw with hw | rfl
  · obtain ⟨h1, h2⟩ := h w hw
    exact ⟨by omega, h2⟩
  · obtain ⟨h1, h2⟩ := h _ hr
    refine ⟨by rw [List.length_append]; exact Nat.succ_le_succ h1, fun d hd => ?_⟩
    rcases List.mem_append.mp hd with hd | hd
    · exact h2 d hd
    · rw [List.mem_singleton.mp hd]
      exact ⟨v1, v2⟩
theorem ways_small {n : Int} : ∀ {es : List (Int × Int)} {m : Nat} {xss : List (List Int)}, (∀ e ∈ es, 1 ≤ e.1 ∧ e.1 < e.2 ∧ e.2 ≤ n) → Small n m xss → Small n (m + es.length) (es.foldl wStep xss)
  | [], m, xss, _, h => h
  | e :: es, m, xss, hI, h => by
    obtain ⟨i1, i2, i3⟩ := hI e List.mem_cons_self
    have r := ways_small (es := es) (fun f hf => hI f (List.mem_cons_of_mem _ hf)) (h.map i1 i2 i3)
    rw [show m + (e :: es).length = m + 1 + es.length by rw [List.length_cons]; omega]
    exact r
theorem ords_small {n : Int} : ∀ {es : List (Int × Int)} {m : Nat} {xss : List (List Int)}, (∀ e ∈ es, 1 ≤ e.1 ∧ e.1 < e.2 ∧ e.2 ≤ n) → (xss.length : Int) = n → Small n m xss → Small n (m + 2 * es.length) (es.foldl oStep xss)
  | [], m, xss, _, _, h => h
  | e :: es, m, xss, hI, hl, h => by
    obtain ⟨i1, i2, i3⟩ := hI e List.mem_cons_self
    have h1 := h.put (c := e.1) (v := e.2) (by omega) i3 i1 (by omega)
    have h2 := h1.put (c := e.2) (v := e.1) i1 (by omega) (by omega) (by rw [put_len]; omega)
    have hl2 : ((oStep xss e).length : Int) = n := by
      unfold oStep
      rw [put_len, put_len]
      exact hl
    have r := ords_small (es := es) (fun f hf => hI f (List.mem_cons_of_mem _ hf)) hl2 h2
    rw [show m + 2 * (e :: es).length = m + 1 + 1 + 2 * es.length by rw [List.length_cons]; omega]
    exact r
theorem waysF_len {n : Int} (es : List (Int × Int)) : (waysF n es).length = n.toNat := by
  unfold waysF
  have key : ∀ (es : List (Int × Int)) (xss : List (List Int)), (es.foldl wStep xss).length = xss.length := by
    intro es
    induction es with
    | nil => intro xss; rfl
    | cons e es ih =>
      intro xss
      rw [List.foldl_cons, ih]
      unfold wStep
      rw [List.length_map]
  rw [key, ways0_len]
theorem ordF_len' : ∀ (es : List (Int × Int)) (xss : List (List Int)), (es.foldl oStep xss).length = xss.length := by
  intro es
  induction es with
  | nil => intro xss; rfl
  | cons e es ih =>
    intro xss
    rw [List.foldl_cons, ih]
    unfold oStep
    rw [put_len, put_len]
theorem ords0_len (n : Int) : (ords0 n).length = n.toNat := by
  unfold ords0
  rw [List.length_map, cs_len]
theorem waysF_small {n : Int} {es : List (Int × Int)} (hI : ∀ e ∈ es, 1 ≤ e.1 ∧ e.1 < e.2 ∧ e.2 ≤ n) : Small n (1 + es.length) (waysF n es) := by
  refine ways_small hI ?_
  intro w hw
  obtain ⟨c, hc, rfl⟩ := List.mem_map.mp hw
  refine ⟨Nat.le_refl _, fun d hd => ?_⟩
  rw [List.mem_singleton.mp hd]
  exact mem_cs.mp hc
theorem ordF_small {n : Int} (hn : 0 ≤ n) {es : List (Int × Int)} (hI : ∀ e ∈ es, 1 ≤ e.1 ∧ e.1 < e.2 ∧ e.2 ≤ n) : Small n (0 + 2 * es.length) (ordF n es) := by
  refine ords_small hI (by rw [ords0_len]; omega) ?_
  intro w hw
  obtain ⟨c, hc, rfl⟩ := List.mem_map.mp hw
  exact ⟨Nat.le_refl _, fun d hd => (List.not_mem_nil hd).elim⟩
end Un

set_option maxRecDepth 100000
set_option maxHeartbeats 8000000
namespace Un
open PySem PySem.Spec PyProof.Rows L2
theorem rgV_names0 (n : Int) : rgV 0 (n + 1) = (names0 n).map V.int := by
  unfold rgV names0
  rw [List.map_map]
  have e : n + 1 - 0 = n + 1 := by omega
  rw [e]
  refine List.map_congr_left fun i _ => ?_
  show V.int (0 + (i : Int)) = V.int (i : Int)
  rw [Int.zero_add]
theorem atI_names {names : List Int} {c : Int} (h0 : 0 ≤ c) (h : c < names.length) : atI (names.map V.int) c = some (.int (nAt names c)) := by
  have hc : c.toNat < names.length := by omega
  have e : ((c.toNat : Nat) : Int) = c := by omega
  have g : (names.map V.int)[c.toNat]? = some (.int (nAt names c)) := by
    unfold nAt
    rw [List.getElem?_map, List.getElem?_eq_getElem hc, List.getD_eq_getElem?_getD, List.getElem?_eq_getElem hc] <;> rfl
  have r := atI_nat g
  rw [e] at r
  exact r
theorem ixN_in {n : Nat} {c : Int} (h0 : 0 ≤ c) (h : c < n) : ixN n c = some c.toNat := by
  unfold ixN
  rw [if_pos h0, if_pos h]
theorem atI_last' {w : List Int} (h : w ≠ []) : atI (w.map V.int) (-1) = some (.int (lst w)) := by
  obtain ⟨v, x, rfl⟩ : ∃ v x, w = v ++ [x] := ⟨w.dropLast, w.getLast h, (List.dropLast_concat_getLast h).symm⟩
  rw [map_snoc, lst_snoc]
  exact atI_last _ _
theorem Rws.set_at {H : Hp} {ys : List Int} {b : Addr} : ∀ {as : List Addr} {xss : List (List Int)} {i : Nat}, Rws H as xss → as.Nodup → as[i]? = some b → Rws (upd H b (.lst (ys.map V.int))) as (xss.set i ys)
  | _, _, _, .nil, _, h => by simp at h
  | c :: as, _, 0, .cons r q, nd, h => by
    have e : c = b := by simpa using h
    subst e
    obtain ⟨n1, n2⟩ := List.nodup_cons.mp nd
    refine .cons upd_same (Rws.keep (fun d hd o e => ?_) q)
    rw [upd_ne fun z => n1 (by rw [← z]; exact hd)]
    exact e
  | c :: as, _, i + 1, .cons r q, nd, h => by
    obtain ⟨n1, n2⟩ := List.nodup_cons.mp nd
    have hb : as[i]? = some b := by simpa using h
    refine .cons ?_ (Rws.set_at q n2 hb)
    have nb : c ≠ b := fun z => n1 (by rw [z]; exact List.mem_of_getElem? hb)
    rw [upd_ne nb]
    exact r
/-- the row of a cell, and its address -/
theorem Rws.row {H : Hp} {as : List Addr} {xss : List (List Int)} (h : Rws H as xss) {c : Int} (c1 : 1 ≤ c) (c2 : c ≤ xss.length) : ∃ b, as[(c - 1).toNat]? = some b ∧ atI (as.map V.ref) (c - 1) = some (.ref b) ∧ H b = some (.lst ((row xss c).map V.int)) ∧ b ∈ as := by
  have hl := h.length
  have hi : (c - 1).toNat < as.length := by omega
  have hb : as[(c - 1).toNat]? = some as[(c - 1).toNat] := List.getElem?_eq_getElem hi
  generalize as[(c - 1).toNat] = b at hb
  obtain ⟨xs, e1, e2⟩ := h.get hb
  refine ⟨b, hb, ?_, ?_, List.mem_of_getElem? hb⟩
  · have g : (as.map V.ref)[(c - 1).toNat]? = some (.ref b) := by
      rw [List.getElem?_map, hb] <;> rfl
    have r := atI_nat g
    rw [show (((c - 1).toNat : Nat) : Int) = c - 1 by omega] at r
    exact r
  · unfold Un.row
    rw [List.getD_eq_getElem?_getD, e1]
    exact e2
theorem Rws.put {H : Hp} {as : List Addr} {xss : List (List Int)} (h : Rws H as xss) (nd : as.Nodup) {c v : Int} {b : Addr} (hb : as[(c - 1).toNat]? = some b) : Rws (upd H b (.lst ((Un.row xss c).map V.int ++ [V.int v]))) as (Un.put xss c v) := by
  have z := h.set_at (ys := Un.row xss c ++ [v]) nd hb
  rw [map_snoc] at z
  exact z
section
variable {P : Program} {w : World} {K : PySem.W.Frag} {mg : Str → Option Value} {base : Heap}
def spLL (g : Int → List (Int × Int) → List (List Int)) : Sp := fun vs H Q _ => ∃ (n : Int) (a : Addr) (es : List (Int × Int)), vs = [.int n, .ref a] ∧ WebL H a es ∧ 1 ≤ n ∧ n ≤ 16 ∧ Inb n es ∧ es.Nodup ∧ es.length < 64 ∧
  ∀ (H' : Hp) (p : Addr) (as : List Addr), Same H H' → H p = none → (∀ b ∈ as, H b = none) → as.Nodup → LLAt H' p as (g n es) → Q (.ref p) H'
theorem nodup_snoc {α : Type} {l : List α} {x : α} (h : l.Nodup) (hx : x ∉ l) : (l ++ [x]).Nodup :=
  List.nodup_append.mpr ⟨h, by simp, fun a ha b hb => by
    rw [List.mem_singleton.mp hb]
    exact fun e => hx (e ▸ ha)⟩
theorem ok_ways_of {f : Addr} {fd : FuncData} {k : Nat} (F : Fun K "ways_of" "ways_of" s_ways_of f fd) (T : Txt mg) : FnOk P w K mg base CX0 (k + 1) f fd ["cells", "log"] (spLL waysF) := by
  refine F.ok sc_ways_of (fun vs H Q E h => ?_) (fun cdv A outer s H vs Q E hr h => ?_)
  · obtain ⟨n, a, es, rfl, _⟩ := h
    rfl
  · obtain ⟨n, a, es, rfl, ⟨ts, ha, hP⟩, n1, n16, hI, hN, hl, q⟩ := h
    refine ⟨_, (pss_cons (ps_setLc (i := 2) (own := [("cell", 8)]) rfl sc_ways_of.nd rfl rfl (sw_true rfl rfl rfl (by decide +kernel)) (pi_range2 (by rfl) T.n_range (pa_cons pe_int (pa_cons (pe_op op_add (pv 0) pe_int) pa_nil))) (blkOk_by (by kernel_rfl)) (fun _ _ _ _ _ => (pg_name (i := 8) sc_ways_of.nd rfl (by first | exact Or.inl rfl | exact Or.inr rfl))) (fun _ _ _ _ _ => pts_nil) (fun _ _ _ _ _ => (pe_lst (pa_cons (pv 8) pa_nil))))
      (pss_cons (ps_set (i := 3) sc_ways_of.nd rfl (by first | exact Or.inl rfl | exact Or.inr rfl) (pe_listRg rfl (by rfl) T.n_list (prg_1 (by rfl) T.n_range (pe_op op_add (pv 0) pe_int))))
      (pss_cons (ps_for PassesOwn.never rfl (pi_list (pv 1)) (pg_tup rfl (pgs_cons (pg_name (i := 4) sc_ways_of.nd rfl (by first | exact Or.inl rfl | exact Or.inr rfl)) (pgs_cons (pg_name (i := 5) sc_ways_of.nd rfl (by first | exact Or.inl rfl | exact Or.inr rfl)) pgs_nil))) (pss_cons (ps_par (i := 6) (j := 7) rfl sc_ways_of.nd rfl rfl (by decide) rfl rfl (pa_cons (pe_ix ix_list (pv 3) (pv 4) (fun _ _ => rfl)) (pa_cons (pe_ix ix_list (pv 3) (pv 5) (fun _ _ => rfl)) pa_nil)) (by rfl))
        (pss_cons (ps_expr (pe_bm PySem.F.plainAttrs_list PySem.F.slot_list_append PySem.F.type_list_append mt_append (pe_ix ix_list (pv 2) (pe_op op_sub (pv 6) pe_int) (fun _ _ => rfl)) (pa_cons (pv 5) pa_nil)))
        (pss_cons (ps_expr (pe_bm PySem.F.plainAttrs_list PySem.F.slot_list_append PySem.F.type_list_append mt_append (pe_ix ix_list (pv 2) (pe_op op_sub (pv 7) pe_int) (fun _ _ => rfl)) (pa_cons (pv 4) pa_nil)))
        (pss_one (ps_asg (pe_tup (pa_cons (pv 7) (pa_cons (pv 6) pa_nil))) (pg_tup rfl (pgs_cons (pg_sub (pv 3) (pv 4) set_list) (pgs_cons (pg_sub (pv 3) (pv 5) set_list) pgs_nil)))))))))
      (pss_one (ps_ret (pv 2)))))), ?_⟩
    -- found
    have en : (n + 1 - 1).toNat = n.toNat := by omega
    refine ⟨_, rfl, n, 1, rfl, rfl, 1, n + 1, rfl, by omega, fun D nD => ?_⟩
    refine lc_range (lo := 1) (n := (n + 1 - 1).toNat) (fun j H' => ∃ as : List Addr, Same H H' ∧ LLAt H' D as (((cs n).take j).map fun c => [c]) ∧ (∀ b ∈ as, H b = none) ∧ as.Nodup)
      ⟨[], same_upd nD, ⟨upd_same, .nil⟩, fun b hb => (List.not_mem_nil hb).elim, List.nodup_nil⟩ ?_ ?_
    · rintro j H1 hj ⟨as, s1, hL, hF, nd⟩
      rw [en] at hj
      refine ⟨rfl, yes (iteT ?_)⟩
      refine ⟨_, rfl, (by show 1 ≤ sizeLine; decide), fun t nt => ?_⟩
      have s2 := same_upd (o := .lst [.int (1 + (j : Int))]) nt
      have tD : t ≠ D := fun z => by
        rw [z, hL.1] at nt
        cases nt
      have tas : t ∉ as := fun m => by
        obtain ⟨xs, _, e⟩ := hL.2.mem m
        rw [e] at nt
        cases nt
      have Dout := hL.out
      refine ⟨_, s2 _ _ hL.1, ?_, as ++ [t], Same.mut (s1.trans s2) nD, ⟨by rw [upd_same, map_snoc], ?_⟩, ?_, nodup_snoc nd tas⟩
      · rw [List.length_map, hL.2.length, List.length_map, List.length_take]
        have := cs_len n
        exact small1000 (by omega)
      · rw [cs_take n j hj, map_snoc]
        refine Rws.append (hL.2.keep fun b hb o e => ?_) (.cons ?_ .nil)
        · rw [upd_ne fun z => Dout (by rw [← z]; exact hb)]
          exact s2 _ _ e
        · rw [upd_ne tD, upd_same] <;> rfl
      · intro b hb
        rcases List.mem_append.mp hb with hb | hb
        · exact hF b hb
        · rw [List.mem_singleton.mp hb]
          exact s1.free nt
    · rintro H1 ⟨as, s1, hL, hF, nd⟩
      rw [en, show (cs n).take n.toNat = cs n by rw [← cs_len n, List.take_length]] at hL
      have hL1 : LLAt H1 D as (ways0 n) := hL
      clear hL
      -- held
      refine ⟨_, rfl, n, 1, rfl, rfl, n + 1, rfl, .of_le (by omega) (by omega) (by omega) (by omega), fun l nl => ?_⟩
      have s2 := same_upd (o := .lst (rgV 0 (n + 1))) nl
      have lD : l ≠ D := fun z => by
        rw [z, hL1.1] at nl
        cases nl
      have las : l ∉ as := fun m => by
        obtain ⟨xs, _, e⟩ := hL1.2.mem m
        rw [e] at nl
        cases nl
      have nl0 := s1.free nl
      have ha2 := s2 _ _ (s1 _ _ ha)
      have aD : a ≠ D := fun z => by
        rw [z, nD] at ha
        cases ha
      refine ⟨_, rfl, a, rfl, ⟨_, sqL_of ha2⟩, for_list (K := K) (a := a) (xs := ts.map V.ref) (fun i σ H' => ∃ (held : List Int) (v4 v5 v6 v7 v8 : Option V), σ = [some (.int n), some (.ref a), some (.ref D), some (.ref l), v4, v5, v6, v7, v8] ∧ Same H H' ∧ LLAt H' D as ((es.take i).foldl wStep (ways0 n)) ∧
          H' l = some (.lst (held.map V.int)) ∧ Held n ((es.take i).foldl wStep (ways0 n)) held ∧ Small n (1 + i) ((es.take i).foldl wStep (ways0 n)))
        ⟨names0 n, none, none, none, none, none, rfl, s1.trans s2, hL1.same s2, by rw [upd_same, rgV_names0], Held.zero (by omega), fun w hw => ?_⟩ (fun i σ H' _ ⟨_, _, _, _, _, _, _, s, _⟩ => sqL_of (s _ _ ha)) ?_ ?_⟩
      · obtain ⟨c, hc, rfl⟩ := List.mem_map.mp hw
        refine ⟨Nat.le_refl _, fun d hd => ?_⟩
        rw [List.mem_singleton.mp hd]
        exact mem_cs.mp hc
      · rintro i x σ H2 hx ⟨held, v4, v5, v6, v7, v8, rfl, s3, hL2, hl2, hH, hSm⟩
        have hi : i < 64 := by
          have z := (List.getElem?_eq_some_iff.mp hx).1
          rw [List.length_map, hP.length] at z
          omega
        rw [List.getElem?_map] at hx
        obtain ⟨t, ht, rfl⟩ := Option.map_eq_some_iff.mp hx
        obtain ⟨e, he, hte⟩ := hP.get ht
        obtain ⟨i1, i2, i3⟩ := hI e (List.mem_of_getElem? he)
        have hnext : (es.take (i + 1)).foldl wStep (ways0 n) = wStep ((es.take i).foldl wStep (ways0 n)) e := by
          rw [List.take_add_one, he, List.foldl_append] <;> rfl
        rw [hnext]
        generalize (es.take i).foldl wStep (ways0 n) = xss at hL2 hH hSm ⊢
        have lx := hH.lx
        have lh := hH.lh
        obtain ⟨a1, a2, a3⟩ := hH.at_ e.1 i1 (by omega)
        obtain ⟨b1, b2, b3⟩ := hH.at_ e.2 (by omega) i3
        obtain ⟨st1, st2, st3⟩ := hH.step i1 i2 i3
        have sm2 := hSm.map i1 i2 i3
        refine ⟨t, _, rfl, sqT_of (s3 _ _ hte), rfl, _, _, rfl, _, _, rfl, rfl, ?_⟩
        -- one, two
        refine ⟨_, rfl, _, rfl, l, _, e.1, _, rfl, rfl, sqL_of hl2, atI_names (by omega) (by omega), _, rfl, _, rfl, l, _, e.2, _, rfl, rfl, sqL_of hl2, atI_names (by omega) (by omega), _, _, rfl, ?_⟩
        generalize hone : nAt held e.1 = one at a1 a2 a3 st1 st2 st3 ⊢
        generalize htwo : nAt held e.2 = two at b1 b2 b3 st1 st2 st3 ⊢
        have lsm : ∀ c : Int, 1 ≤ c → c ≤ n → (row xss c).length ≤ 64 := fun c c1 c2 => by
          have m : row xss c ∈ xss := by
            unfold row
            rw [List.getD_eq_getElem?_getD, List.getElem?_eq_getElem (show (c - 1).toNat < xss.length by omega)]
            exact List.getElem_mem _
          have := (hSm _ m).1
          omega
        obtain ⟨r1, g1, g2, g3, g4⟩ := hL2.2.row a1 (by omega)
        have Dout := hL2.out
        -- found[one - 1].append(second)
        refine ⟨_, rfl, _, rfl, one, 1, rfl, rfl, D, _, one - 1, _, rfl, rfl, sqL_of hL2.1, g2, .inl ⟨rfl, _, sqL_of g3⟩, _, rfl, r1, _, _, rfl, rfl, g3, ?_, ?_⟩
        · rw [List.length_map]
          exact small1000 (by have := lsm one a1 a2; omega)
        have L3 : LLAt (upd H2 r1 (.lst ((row xss one).map V.int ++ [V.int e.2]))) D as (put xss one e.2) := ⟨by
          rw [upd_ne fun z => Dout (by rw [z]; exact g4)]
          exact hL2.1, hL2.2.put nd g1⟩
        have S3 : Same H (upd H2 r1 (.lst ((row xss one).map V.int ++ [V.int e.2]))) := Same.mut s3 (hF _ g4)
        have l3 : (upd H2 r1 (.lst ((row xss one).map V.int ++ [V.int e.2]))) l = some (.lst (held.map V.int)) := by
          rw [upd_ne fun z => las (by rw [z]; exact g4)]
          exact hl2
        generalize upd H2 r1 (.lst ((row xss one).map V.int ++ [V.int e.2])) = H3 at L3 S3 l3 ⊢
        -- found[two - 1].append(first)
        obtain ⟨r2, k1, k2, k3, k4⟩ := L3.2.row b1 (by rw [put_len]; omega)
        have erow : row (put xss one e.2) two = row xss two := by
          rw [row_put a1 (by omega) b1, if_neg st3.symm]
        refine ⟨_, rfl, _, rfl, two, 1, rfl, rfl, D, _, two - 1, _, rfl, rfl, sqL_of L3.1, k2, .inl ⟨rfl, _, sqL_of k3⟩, _, rfl, r2, _, _, rfl, rfl, k3, ?_, ?_⟩
        · rw [List.length_map, erow]
          exact small1000 (by have := lsm two b1 b2; omega)
        have L4 : LLAt (upd H3 r2 (.lst ((row (put xss one e.2) two).map V.int ++ [V.int e.1]))) D as (wStep xss e) := by
          rw [← st1]
          exact ⟨by
            rw [upd_ne fun z => L3.out (by rw [z]; exact k4)]
            exact L3.1, L3.2.put nd k1⟩
        have S4 : Same H (upd H3 r2 (.lst ((row (put xss one e.2) two).map V.int ++ [V.int e.1]))) := Same.mut S3 (hF _ k4)
        have l4 : (upd H3 r2 (.lst ((row (put xss one e.2) two).map V.int ++ [V.int e.1]))) l = some (.lst (held.map V.int)) := by
          rw [upd_ne fun z => las (by rw [z]; exact k4)]
          exact l3
        generalize upd H3 r2 (.lst ((row (put xss one e.2) two).map V.int ++ [V.int e.1])) = H4 at L4 S4 l4 ⊢
        -- held[first], held[second] = two, one
        refine ⟨_, rfl, _, rfl, (by show 2 ≤ sizeLine; decide), fun u nu => ?_⟩
        have s5 := same_upd (o := .tup [.int two, .int one]) nu
        refine ⟨u, _, rfl, sqT_of upd_same, rfl, ?_⟩
        refine ⟨.int two, [.int one], rfl, _, rfl, _, rfl, l, _, e.1, e.1.toNat, rfl, rfl, s5 _ _ l4, ixN_in (by omega) (by rw [List.length_map]; omega), ?_⟩
        refine ⟨.int one, [], rfl, _, rfl, _, rfl, l, _, e.2, e.2.toNat, rfl, rfl, upd_same, ixN_in (by omega) (by rw [List.length_set, List.length_map]; omega), ?_⟩
        refine ⟨rfl, ?_⟩
        have eh : (((held.map V.int).set e.1.toNat (.int two)).set e.2.toNat (.int one)) = ((held.set e.1.toNat two).set e.2.toNat one).map V.int := by
          rw [List.map_set, List.map_set]
        refine ⟨_, _, _, _, _, v8, rfl, Same.mut (Same.mut (S4.trans s5) nl0) nl0, ?_, ?_, st2, ?_⟩
        · have L5 := L4.same s5
          refine ⟨?_, L5.2.keep fun b hb o z => ?_⟩
          · rw [upd_ne lD.symm, upd_ne lD.symm]
            exact L5.1
          · have nb : b ≠ l := fun y => las (by rw [← y]; exact hb)
            rw [upd_ne nb, upd_ne nb]
            exact z
        · rw [upd_same, eh]
        · rw [Nat.add_assoc] at sm2
          exact sm2
      · rintro σ H2 ⟨held, v4, v5, v6, v7, v8, rfl, s3, hL2, _⟩
        have eT : es.take (ts.map V.ref).length = es := by rw [List.length_map, hP.length, List.take_length]
        rw [eT] at hL2
        exact ⟨_, rfl, q H2 D as s3 nD hF nd hL2⟩
end
end Un

set_option maxRecDepth 100000
set_option maxHeartbeats 8000000
namespace Un
open PySem PySem.Spec PyProof.Rows L2
theorem row_len {n : Int} {m : Nat} {xss : List (List Int)} (hS : Small n m xss) {c : Int} (c1 : 1 ≤ c) (c2 : c ≤ xss.length) : (row xss c).length ≤ m := by
  have h : row xss c ∈ xss := by
    unfold row
    rw [List.getD_eq_getElem?_getD, List.getElem?_eq_getElem (show (c - 1).toNat < xss.length by omega)]
    exact List.getElem_mem _
  exact (hS _ h).1
theorem ords0_small (n : Int) : Small n 0 (ords0 n) := by
  intro w hw
  obtain ⟨c, hc, rfl⟩ := List.mem_map.mp hw
  exact ⟨Nat.le_refl _, fun d hd => (List.not_mem_nil hd).elim⟩
section
variable {P : Program} {w : World} {K : PySem.W.Frag} {mg : Str → Option Value} {base : Heap}
theorem ok_orders_of {f : Addr} {fd : FuncData} {k : Nat} (F : Fun K "orders_of" "orders_of" s_orders_of f fd) (T : Txt mg) : FnOk P w K mg base CX0 (k + 1) f fd ["cells", "log"] (spLL ordF) := by
  refine F.ok sc_orders_of (fun vs H Q E h => ?_) (fun cdv A outer s H vs Q E hr h => ?_)
  · obtain ⟨n, a, es, rfl, _⟩ := h
    rfl
  · obtain ⟨n, a, es, rfl, ⟨ts, ha, hP⟩, n1, n16, hI, hN, hl, q⟩ := h
    refine ⟨_, (pss_cons (ps_setLc (i := 2) (own := [("_", 5)]) rfl sc_orders_of.nd rfl rfl (sw_true rfl rfl rfl (by decide +kernel)) (pi_range1 (by rfl) T.n_range (pa_cons (pv 0) pa_nil)) (blkOk_by (by kernel_rfl)) (fun _ _ _ _ _ => (pg_name (i := 5) sc_orders_of.nd rfl (by first | exact Or.inl rfl | exact Or.inr rfl))) (fun _ _ _ _ _ => pts_nil) (fun _ _ _ _ _ => (pe_lst pa_nil)))
      (pss_cons (ps_for PassesOwn.never rfl (pi_list (pv 1)) (pg_tup rfl (pgs_cons (pg_name (i := 3) sc_orders_of.nd rfl (by first | exact Or.inl rfl | exact Or.inr rfl)) (pgs_cons (pg_name (i := 4) sc_orders_of.nd rfl (by first | exact Or.inl rfl | exact Or.inr rfl)) pgs_nil))) (pss_cons (ps_expr (pe_bm PySem.F.plainAttrs_list PySem.F.slot_list_append PySem.F.type_list_append mt_append (pe_ix ix_list (pv 2) (pe_op op_sub (pv 3) pe_int) (fun _ _ => rfl)) (pa_cons (pv 4) pa_nil)))
        (pss_one (ps_expr (pe_bm PySem.F.plainAttrs_list PySem.F.slot_list_append PySem.F.type_list_append mt_append (pe_ix ix_list (pv 2) (pe_op op_sub (pv 4) pe_int) (fun _ _ => rfl)) (pa_cons (pv 3) pa_nil))))))
      (pss_one (ps_ret (pv 2))))), ?_⟩
    refine ⟨_, rfl, n, rfl, by omega, by omega, fun D nD => ?_⟩
    refine lc_range (lo := 0) (n := n.toNat) (fun j H' => ∃ as : List Addr, Same H H' ∧ LLAt H' D as (((cs n).take j).map fun _ => []) ∧ (∀ b ∈ as, H b = none) ∧ as.Nodup ∧ D ∉ as)
      ⟨[], same_upd nD, ⟨upd_same, .nil⟩, fun b hb => (List.not_mem_nil hb).elim, List.nodup_nil, List.not_mem_nil⟩ ?_ ?_
    · rintro j H1 hj ⟨as, s1, hL, hF, nd, Dout⟩
      refine ⟨rfl, yes (iteT ?_)⟩
      refine ⟨Nat.zero_le _, fun t nt => ?_⟩
      have s2 := same_upd (o := .lst []) nt
      have tD : t ≠ D := fun z => by
        rw [z, hL.1] at nt
        cases nt
      have tas : t ∉ as := fun m => by
        obtain ⟨xs, _, e⟩ := hL.2.mem m
        rw [e] at nt
        cases nt
      refine ⟨_, s2 _ _ hL.1, ?_, as ++ [t], Same.mut (s1.trans s2) nD, ⟨by rw [upd_same, map_snoc], ?_⟩, ?_, nodup_snoc nd tas, ?_⟩
      · rw [List.length_map, hL.2.length, List.length_map, List.length_take]
        have := cs_len n
        exact small1000 (by omega)
      · rw [cs_take n j hj, map_snoc]
        refine Rws.append (hL.2.keep fun b hb o e => ?_) (.cons ?_ .nil)
        · rw [upd_ne fun z => Dout (by rw [← z]; exact hb)]
          exact s2 _ _ e
        · rw [upd_ne tD, upd_same] <;> rfl
      · intro b hb
        rcases List.mem_append.mp hb with hb | hb
        · exact hF b hb
        · rw [List.mem_singleton.mp hb]
          exact s1.free nt
      · intro m
        rcases List.mem_append.mp m with m | m
        · exact Dout m
        · exact tD (List.mem_singleton.mp m).symm
    · rintro H1 ⟨as, s1, hL, hF, nd, Dout⟩
      rw [show (cs n).take n.toNat = cs n by rw [← cs_len n, List.take_length]] at hL
      have hL1 : LLAt H1 D as (ords0 n) := hL
      clear hL
      have aD : a ≠ D := fun z => by
        rw [z, nD] at ha
        cases ha
      refine ⟨_, rfl, a, rfl, ⟨_, sqL_of (s1 _ _ ha)⟩, for_list (K := K) (a := a) (xs := ts.map V.ref) (fun i σ H' => ∃ v3 v4 v5 : Option V, σ = [some (.int n), some (.ref a), some (.ref D), v3, v4, v5] ∧ Same H H' ∧ LLAt H' D as ((es.take i).foldl oStep (ords0 n)) ∧
          Small n (0 + 2 * i) ((es.take i).foldl oStep (ords0 n)))
        ⟨none, none, none, rfl, s1, hL1, ords0_small n⟩ (fun i σ H' _ ⟨_, _, _, _, s, _⟩ => sqL_of (s _ _ ha)) ?_ ?_⟩
      · rintro i x σ H2 hx ⟨v3, v4, v5, rfl, s3, hL2, hSm⟩
        have hi : i < 64 := by
          have z := (List.getElem?_eq_some_iff.mp hx).1
          rw [List.length_map, hP.length] at z
          omega
        rw [List.getElem?_map] at hx
        obtain ⟨t, ht, rfl⟩ := Option.map_eq_some_iff.mp hx
        obtain ⟨e, he, hte⟩ := hP.get ht
        obtain ⟨i1, i2, i3⟩ := hI e (List.mem_of_getElem? he)
        have hnext : (es.take (i + 1)).foldl oStep (ords0 n) = oStep ((es.take i).foldl oStep (ords0 n)) e := by
          rw [List.take_add_one, he, List.foldl_append] <;> rfl
        have lx : (((es.take i).foldl oStep (ords0 n)).length : Int) = n := by
          rw [ordF_len', ords0_len]
          omega
        rw [hnext]
        generalize (es.take i).foldl oStep (ords0 n) = xss at hL2 lx hSm ⊢
        have sm1 := hSm.put (c := e.1) (v := e.2) (by omega) i3 i1 (by omega)
        have sm2 := sm1.put (c := e.2) (v := e.1) i1 (by omega) (by omega) (by rw [put_len]; omega)
        refine ⟨t, _, rfl, sqT_of (s3 _ _ hte), rfl, _, _, rfl, _, _, rfl, rfl, ?_⟩
        obtain ⟨r1, g1, g2, g3, g4⟩ := hL2.2.row i1 (by omega)
        refine ⟨_, rfl, _, rfl, e.1, 1, rfl, rfl, D, _, e.1 - 1, _, rfl, rfl, sqL_of hL2.1, g2, .inl ⟨rfl, _, sqL_of g3⟩, _, rfl, r1, _, _, rfl, rfl, g3, ?_, ?_⟩
        · rw [List.length_map]
          exact small1000 (by have := row_len hSm i1 (by omega); omega)
        have L3 : LLAt (upd H2 r1 (.lst ((row xss e.1).map V.int ++ [V.int e.2]))) D as (put xss e.1 e.2) := ⟨by
          rw [upd_ne fun z => Dout (by rw [z]; exact g4)]
          exact hL2.1, hL2.2.put nd g1⟩
        have S3 : Same H (upd H2 r1 (.lst ((row xss e.1).map V.int ++ [V.int e.2]))) := Same.mut s3 (hF _ g4)
        generalize upd H2 r1 (.lst ((row xss e.1).map V.int ++ [V.int e.2])) = H3 at L3 S3 ⊢
        obtain ⟨r2, k1, k2, k3, k4⟩ := L3.2.row (c := e.2) (by omega) (by rw [put_len]; omega)
        refine ⟨_, rfl, _, rfl, e.2, 1, rfl, rfl, D, _, e.2 - 1, _, rfl, rfl, sqL_of L3.1, k2, .inl ⟨rfl, _, sqL_of k3⟩, _, rfl, r2, _, _, rfl, rfl, k3, ?_, ?_⟩
        · rw [List.length_map]
          exact small1000 (by have := row_len sm1 (c := e.2) (by omega) (by rw [put_len]; omega); omega)
        refine ⟨_, _, v5, rfl, Same.mut S3 (hF _ k4), ⟨?_, L3.2.put nd k1⟩, ?_⟩
        · rw [upd_ne fun z => Dout (by rw [z]; exact k4)]
          exact L3.1
        · rw [show 0 + 2 * (i + 1) = 0 + 2 * i + 1 + 1 by omega]
          exact sm2
      · rintro σ H2 ⟨v3, v4, v5, rfl, s3, hL2, _⟩
        have eT : es.take (ts.map V.ref).length = es := by rw [List.length_map, hP.length, List.take_length]
        rw [eT] at hL2
        exact ⟨_, rfl, q H2 D as s3 nD hF nd hL2⟩
/-! ### the ends -/
def spEnds : Sp := fun vs H Q _ => ∃ (n : Int) (a : Addr) (es : List (Int × Int)), vs = [.int n, .ref a] ∧ WebL H a es ∧ 1 ≤ n ∧ n ≤ 16 ∧ Inb n es ∧ es.Nodup ∧ es.length < 64 ∧
  ∀ (H' : Hp) (p : Addr), Same H H' → H p = none → H' p = some (.lst ((endsF n es).map V.int)) → Q (.ref p) H'
theorem held_all {n : Int} (hn : 0 ≤ n) : ∀ {es : List (Int × Int)} {xss : List (List Int)} {held : List Int}, (∀ e ∈ es, 1 ≤ e.1 ∧ e.1 < e.2 ∧ e.2 ≤ n) → Held n xss held → ∃ held', Held n (es.foldl wStep xss) held'
  | [], _, held, _, h => ⟨held, h⟩
  | e :: es, _, _, hI, h => by
    obtain ⟨i1, i2, i3⟩ := hI e List.mem_cons_self
    exact held_all hn (es := es) (fun f hf => hI f (List.mem_cons_of_mem _ hf)) (h.step i1 i2 i3).2.1
theorem ways_ne {n : Int} (hn : 0 ≤ n) {es : List (Int × Int)} (hI : Inb n es) : ∀ x ∈ waysF n es, x ≠ [] := by
  obtain ⟨held, h⟩ := held_all hn hI (Held.zero hn)
  intro x hx
  obtain ⟨i, hi, e⟩ := List.getElem_of_mem hx
  have lx := h.lx
  have hi' : i < ((es.foldl wStep (ways0 n)).length) := hi
  have z := h.ne (1 + (i : Int)) (by omega) (by omega)
  unfold row at z
  rw [show (1 + (i : Int) - 1).toNat = i by omega, List.getD_eq_getElem?_getD, List.getElem?_eq_getElem hi'] at z
  rw [← e]
  exact z
theorem ok_ends_of {f : Addr} {fd : FuncData} (F : Fun K "ends_of" "ends_of" s_ends_of f fd) (c : C8.Cal P w K mg base 1 "ways_of" (spLL waysF) []) : FnOk P w K mg base CX0 2 f fd ["cells", "log"] spEnds := by
  refine F.ok sc_ends_of (fun vs H Q E h => ?_) (fun cdv A outer s H vs Q E hr h => ?_)
  · obtain ⟨n, a, es, rfl, _⟩ := h
    rfl
  · obtain ⟨n, a, es, rfl, hW, n1, n16, hI, hN, hl, q⟩ := h
    refine ⟨_, (pss_one (ps_ret (pe_lc (own := [("way", 2)]) rfl sc_ends_of.nd (pi_list (C8.pe_c c hr (by decide) (by rfl) (pa_cons (pv 0) (pa_cons (pv 1) pa_nil)))) (blkOk_by (by kernel_rfl)) (fun _ _ _ _ _ => (pg_name (i := 2) sc_ends_of.nd rfl (by first | exact Or.inl rfl | exact Or.inr rfl))) (fun _ _ _ _ _ => pts_nil) (fun _ _ _ _ _ => (pe_ix (r := rIxL K) ix_list (pv 2) (pe_un un_neg pe_int) (fun _ _ => rfl)))))), ?_⟩
    refine ⟨_, rfl, _, rfl, n, a, es, rfl, hW, n1, n16, hI, hN, hl, fun H1 p as s1 np na nd hL => ?_⟩
    refine ⟨p, rfl, ⟨_, sqL_of hL.1⟩, fun D nD => ?_⟩
    have hne := ways_ne (by omega) hI
    have hlen : (waysF n es).length ≤ 16 := by
      rw [waysF_len]
      omega
    unfold endsF at q
    generalize waysF n es = xss at hL hne hlen q
    refine lc_list (K := K) (a := p) (xs := as.map V.ref) (fun i H' => Same H1 H' ∧ H' D = some (.lst (((xss.take i).map lst).map V.int))) ⟨same_upd nD, upd_same⟩ (fun i H' _ ⟨s2, _⟩ => sqL_of (s2 _ _ hL.1)) ?_ ?_
    · rintro i x H2 hx ⟨s2, hD⟩
      rw [List.getElem?_map] at hx
      obtain ⟨b, hb, rfl⟩ := Option.map_eq_some_iff.mp hx
      obtain ⟨xs, e1, e2⟩ := hL.2.get hb
      refine ⟨rfl, yes (iteT ?_)⟩
      refine ⟨_, rfl, 1, rfl, b, _, -1, _, rfl, rfl, sqL_of (s2 _ _ e2), atI_last' (hne _ (List.mem_of_getElem? e1)), _, hD, ?_, Same.mut s2 nD, ?_⟩
      · rw [List.length_map, List.length_map, List.length_take]
        exact small1000 (by omega)
      · rw [upd_same, List.take_add_one, e1, List.map_append, List.map_append] <;> rfl
    · rintro H2 ⟨s2, hD⟩
      rw [List.length_map, hL.2.length, List.take_length] at hD
      exact q H2 D (s1.trans s2) (s1.free nD) hD
/-! ### what callers see -/
structure ChkCals (P : Program) (w : World) (K : PySem.W.Frag) (mg : Str → Option Value) (base : Heap) : Prop where
  cc : C8.Cal P w K mg base 3 "check_cells" spChkCells [.int 1, .int 16]
  cl : C8.Cal P w K mg base 4 "check_log" (spChkLog K) []
theorem ok_ways {f : Addr} {fd : FuncData} (F : Fun K "ways" "ways" s_ways f fd) (C : ChkCals P w K mg base) (c : C8.Cal P w K mg base 1 "ways_of" (spLL waysF) []) : FnOk P w K mg base CX0 5 f fd ["cells", "log"] (spLL waysF) := by
  refine F.ok sc_ways (fun vs H Q E h => ?_) (fun cdv A outer s H vs Q E hr h => ?_)
  · obtain ⟨n, a, es, rfl, _⟩ := h
    rfl
  · obtain ⟨n, a, es, rfl, hW, n1, n16, hI, hN, hl, q⟩ := h
    refine ⟨_, (pss_cons (ps_expr (C8.pe_c C.cc hr (by decide) (by rfl) (pa_cons (pv 0) pa_nil)))
      (pss_cons (ps_expr (C8.pe_c C.cl hr (by decide) (by rfl) (pa_cons (pv 0) (pa_cons (pv 1) pa_nil))))
      (pss_one (ps_ret (C8.pe_c c hr (by decide) (by rfl) (pa_cons (pv 0) (pa_cons (pv 1) pa_nil))))))), ?_⟩
    refine ⟨_, rfl, n, rfl, n1, n16, ?_⟩
    refine ⟨_, rfl, _, rfl, n, a, es, rfl, hW, hN, hl, hI, fun H1 s1 => ?_⟩
    exact ⟨_, rfl, _, rfl, n, a, es, rfl, hW.same s1, n1, n16, hI, hN, hl, fun H2 p as s2 np na nd hL => q H2 p as (s1.trans s2) (s1.free np) (fun b hb => s1.free (na b hb)) nd hL⟩
theorem ok_orders {f : Addr} {fd : FuncData} (F : Fun K "orders" "orders" s_orders f fd) (C : ChkCals P w K mg base) (c : C8.Cal P w K mg base 1 "orders_of" (spLL ordF) []) : FnOk P w K mg base CX0 5 f fd ["cells", "log"] (spLL ordF) := by
  refine F.ok sc_orders (fun vs H Q E h => ?_) (fun cdv A outer s H vs Q E hr h => ?_)
  · obtain ⟨n, a, es, rfl, _⟩ := h
    rfl
  · obtain ⟨n, a, es, rfl, hW, n1, n16, hI, hN, hl, q⟩ := h
    refine ⟨_, (pss_cons (ps_expr (C8.pe_c C.cc hr (by decide) (by rfl) (pa_cons (pv 0) pa_nil)))
      (pss_cons (ps_expr (C8.pe_c C.cl hr (by decide) (by rfl) (pa_cons (pv 0) (pa_cons (pv 1) pa_nil))))
      (pss_one (ps_ret (C8.pe_c c hr (by decide) (by rfl) (pa_cons (pv 0) (pa_cons (pv 1) pa_nil))))))), ?_⟩
    refine ⟨_, rfl, n, rfl, n1, n16, ?_⟩
    refine ⟨_, rfl, _, rfl, n, a, es, rfl, hW, hN, hl, hI, fun H1 s1 => ?_⟩
    exact ⟨_, rfl, _, rfl, n, a, es, rfl, hW.same s1, n1, n16, hI, hN, hl, fun H2 p as s2 np na nd hL => q H2 p as (s1.trans s2) (s1.free np) (fun b hb => s1.free (na b hb)) nd hL⟩
theorem ok_ends {f : Addr} {fd : FuncData} (F : Fun K "ends" "ends" s_ends f fd) (C : ChkCals P w K mg base) (c : C8.Cal P w K mg base 2 "ends_of" spEnds []) : FnOk P w K mg base CX0 5 f fd ["cells", "log"] spEnds := by
  refine F.ok sc_ends (fun vs H Q E h => ?_) (fun cdv A outer s H vs Q E hr h => ?_)
  · obtain ⟨n, a, es, rfl, _⟩ := h
    rfl
  · obtain ⟨n, a, es, rfl, hW, n1, n16, hI, hN, hl, q⟩ := h
    refine ⟨_, (pss_cons (ps_expr (C8.pe_c C.cc hr (by decide) (by rfl) (pa_cons (pv 0) pa_nil)))
      (pss_cons (ps_expr (C8.pe_c C.cl hr (by decide) (by rfl) (pa_cons (pv 0) (pa_cons (pv 1) pa_nil))))
      (pss_one (ps_ret (C8.pe_c c hr (by decide) (by rfl) (pa_cons (pv 0) (pa_cons (pv 1) pa_nil))))))), ?_⟩
    refine ⟨_, rfl, n, rfl, n1, n16, ?_⟩
    refine ⟨_, rfl, _, rfl, n, a, es, rfl, hW, hN, hl, hI, fun H1 s1 => ?_⟩
    exact ⟨_, rfl, _, rfl, n, a, es, rfl, hW.same s1, n1, n16, hI, hN, hl, fun H2 p s2 np hL => q H2 p (s1.trans s2) (s1.free np) hL⟩
end
end Un

set_option maxRecDepth 100000
set_option maxHeartbeats 8000000
namespace Un
open PySem PySem.Spec PyProof.Rows L2
section
variable {P : Program} {w : World} {K : PySem.W.Frag} {mg : Str → Option Value} {base : Heap}
theorem ok_l_orders {f : Addr} {fd : FuncData} {k : Nat} (F : Fun K "_law_orders" "_law_orders" s_l_orders f fd) (T : Txt mg) : FnOk P w K mg base CX0 (k + 1) f fd ["_law_size", "_law_made"] (spLL ordF) := by
  refine F.ok sc_l_orders (fun vs H Q E h => ?_) (fun cdv A outer s H vs Q E hr h => ?_)
  · obtain ⟨n, a, es, rfl, _⟩ := h
    rfl
  · obtain ⟨n, a, es, rfl, ⟨ts, ha, hP⟩, n1, n16, hI, hN, hl, q⟩ := h
    refine ⟨_, (pss_cons (ps_setLc (i := 2) (own := [("_law_k", 7)]) rfl sc_l_orders.nd rfl rfl (sw_true rfl rfl rfl (by decide +kernel)) (pi_range1 (by rfl) T.n_range (pa_cons (pv 0) pa_nil)) (blkOk_by (by kernel_rfl)) (fun _ _ _ _ _ => (pg_name (i := 7) sc_l_orders.nd rfl (by first | exact Or.inl rfl | exact Or.inr rfl))) (fun _ _ _ _ _ => pts_nil) (fun _ _ _ _ _ => (pe_lst pa_nil)))
      (pss_cons (ps_for PassesOwn.never rfl (pi_list (pv 1)) (pg_tup rfl (pgs_cons (pg_name (i := 3) sc_l_orders.nd rfl (by first | exact Or.inl rfl | exact Or.inr rfl)) (pgs_cons (pg_name (i := 4) sc_l_orders.nd rfl (by first | exact Or.inl rfl | exact Or.inr rfl)) pgs_nil))) (pss_cons (ps_par (i := 5) (j := 6) rfl sc_l_orders.nd rfl rfl (by decide) rfl rfl (pa_cons (pe_ix ix_list (pv 2) (pe_op op_sub (pv 3) pe_int) (fun _ _ => rfl)) (pa_cons (pe_ix ix_list (pv 2) (pe_op op_sub (pv 4) pe_int) (fun _ _ => rfl)) pa_nil)) (by rfl))
        (pss_cons (ps_expr (pe_bm PySem.F.plainAttrs_list PySem.F.slot_list_append PySem.F.type_list_append mt_append (pv 5) (pa_cons (pv 4) pa_nil)))
        (pss_one (ps_expr (pe_bm PySem.F.plainAttrs_list PySem.F.slot_list_append PySem.F.type_list_append mt_append (pv 6) (pa_cons (pv 3) pa_nil)))))))
      (pss_one (ps_ret (pv 2))))), ?_⟩
    refine ⟨_, rfl, n, rfl, by omega, by omega, fun D nD => ?_⟩
    refine lc_range (lo := 0) (n := n.toNat) (fun j H' => ∃ as : List Addr, Same H H' ∧ LLAt H' D as (((cs n).take j).map fun _ => []) ∧ (∀ b ∈ as, H b = none) ∧ as.Nodup ∧ D ∉ as)
      ⟨[], same_upd nD, ⟨upd_same, .nil⟩, fun b hb => (List.not_mem_nil hb).elim, List.nodup_nil, List.not_mem_nil⟩ ?_ ?_
    · rintro j H1 hj ⟨as, s1, hL, hF, nd, Dout⟩
      refine ⟨rfl, yes (iteT ?_)⟩
      refine ⟨Nat.zero_le _, fun t nt => ?_⟩
      have s2 := same_upd (o := .lst []) nt
      have tD : t ≠ D := fun z => by
        rw [z, hL.1] at nt
        cases nt
      have tas : t ∉ as := fun m => by
        obtain ⟨xs, _, e⟩ := hL.2.mem m
        rw [e] at nt
        cases nt
      refine ⟨_, s2 _ _ hL.1, ?_, as ++ [t], Same.mut (s1.trans s2) nD, ⟨by rw [upd_same, map_snoc], ?_⟩, ?_, nodup_snoc nd tas, ?_⟩
      · rw [List.length_map, hL.2.length, List.length_map, List.length_take]
        have := cs_len n
        exact small1000 (by omega)
      · rw [cs_take n j hj, map_snoc]
        refine Rws.append (hL.2.keep fun b hb o e => ?_) (.cons ?_ .nil)
        · rw [upd_ne fun z => Dout (by rw [← z]; exact hb)]
          exact s2 _ _ e
        · rw [upd_ne tD, upd_same] <;> rfl
      · intro b hb
        rcases List.mem_append.mp hb with hb | hb
        · exact hF b hb
        · rw [List.mem_singleton.mp hb]
          exact s1.free nt
      · intro m
        rcases List.mem_append.mp m with m | m
        · exact Dout m
        · exact tD (List.mem_singleton.mp m).symm
    · rintro H1 ⟨as, s1, hL, hF, nd, Dout⟩
      rw [show (cs n).take n.toNat = cs n by rw [← cs_len n, List.take_length]] at hL
      have hL1 : LLAt H1 D as (ords0 n) := hL
      clear hL
      refine ⟨_, rfl, a, rfl, ⟨_, sqL_of (s1 _ _ ha)⟩, for_list (K := K) (a := a) (xs := ts.map V.ref) (fun i σ H' => ∃ v3 v4 v5 v6 v7 : Option V, σ = [some (.int n), some (.ref a), some (.ref D), v3, v4, v5, v6, v7] ∧ Same H H' ∧ LLAt H' D as ((es.take i).foldl oStep (ords0 n)) ∧
          Small n (0 + 2 * i) ((es.take i).foldl oStep (ords0 n)))
        ⟨none, none, none, none, none, rfl, s1, hL1, ords0_small n⟩ (fun i σ H' _ ⟨_, _, _, _, _, _, s, _⟩ => sqL_of (s _ _ ha)) ?_ ?_⟩
      · rintro i x σ H2 hx ⟨v3, v4, v5, v6, v7, rfl, s3, hL2, hSm⟩
        have hi : i < 64 := by
          have z := (List.getElem?_eq_some_iff.mp hx).1
          rw [List.length_map, hP.length] at z
          omega
        rw [List.getElem?_map] at hx
        obtain ⟨t, ht, rfl⟩ := Option.map_eq_some_iff.mp hx
        obtain ⟨e, he, hte⟩ := hP.get ht
        obtain ⟨i1, i2, i3⟩ := hI e (List.mem_of_getElem? he)
        have hnext : (es.take (i + 1)).foldl oStep (ords0 n) = oStep ((es.take i).foldl oStep (ords0 n)) e := by
          rw [List.take_add_one, he, List.foldl_append] <;> rfl
        have lx : (((es.take i).foldl oStep (ords0 n)).length : Int) = n := by
          rw [ordF_len', ords0_len]
          omega
        rw [hnext]
        generalize (es.take i).foldl oStep (ords0 n) = xss at hL2 lx hSm ⊢
        have sm1 := hSm.put (c := e.1) (v := e.2) (by omega) i3 i1 (by omega)
        have sm2 := sm1.put (c := e.2) (v := e.1) i1 (by omega) (by omega) (by rw [put_len]; omega)
        refine ⟨t, _, rfl, sqT_of (s3 _ _ hte), rfl, _, _, rfl, _, _, rfl, rfl, ?_⟩
        obtain ⟨r1, g1, g2, g3, g4⟩ := hL2.2.row i1 (by omega)
        obtain ⟨r2, k1, k2, k3', k4⟩ := hL2.2.row (c := e.2) (by omega) (by omega)
        refine ⟨_, rfl, _, rfl, e.1, 1, rfl, rfl, D, _, e.1 - 1, _, rfl, rfl, sqL_of hL2.1, g2, _, rfl, _, rfl, e.2, 1, rfl, rfl, D, _, e.2 - 1, _, rfl, rfl, sqL_of hL2.1, k2, _, _, rfl, ?_⟩
        refine ⟨_, rfl, .inl ⟨rfl, _, sqL_of g3⟩, _, rfl, r1, _, _, rfl, rfl, g3, ?_, ?_⟩
        · rw [List.length_map]
          exact small1000 (by have := row_len hSm i1 (by omega); omega)
        have L3 : LLAt (upd H2 r1 (.lst ((row xss e.1).map V.int ++ [V.int e.2]))) D as (put xss e.1 e.2) := ⟨by
          rw [upd_ne fun z => Dout (by rw [z]; exact g4)]
          exact hL2.1, hL2.2.put nd g1⟩
        have S3 : Same H (upd H2 r1 (.lst ((row xss e.1).map V.int ++ [V.int e.2]))) := Same.mut s3 (hF _ g4)
        obtain ⟨r2', m1, m2, m3, m4⟩ := L3.2.row (c := e.2) (by omega) (by rw [put_len]; omega)
        obtain rfl : r2 = r2' := Option.some.inj (k1.symm.trans m1)
        generalize upd H2 r1 (.lst ((row xss e.1).map V.int ++ [V.int e.2])) = H3 at L3 S3 m3 ⊢
        refine ⟨_, rfl, .inl ⟨rfl, _, sqL_of m3⟩, _, rfl, r2, _, _, rfl, rfl, m3, ?_, ?_⟩
        · rw [List.length_map]
          exact small1000 (by have := row_len sm1 (c := e.2) (by omega) (by rw [put_len]; omega); omega)
        refine ⟨_, _, _, _, v7, rfl, Same.mut S3 (hF _ k4), ⟨?_, L3.2.put nd k1⟩, ?_⟩
        · rw [upd_ne fun z => Dout (by rw [z]; exact k4)]
          exact L3.1
        · rw [show 0 + 2 * (i + 1) = 0 + 2 * i + 1 + 1 by omega]
          exact sm2
      · rintro σ H2 ⟨v3, v4, v5, v6, v7, rfl, s3, hL2, _⟩
        have eT : es.take (ts.map V.ref).length = es := by rw [List.length_map, hP.length, List.take_length]
        rw [eT] at hL2
        exact ⟨_, rfl, q H2 D as s3 nD hF nd hL2⟩
end
end Un

set_option maxHeartbeats 1000000
namespace Un
/-! ### orders tell the ways: the mathematics -/
def nbr (c : Int) (e : Int × Int) : Option Int := if e.1 = c then some e.2 else if e.2 = c then some e.1 else none
def nbrs (c : Int) (X : List (Int × Int)) : List Int := X.filterMap (nbr c)
def follow : Int → List (Int × Int) → List Int
  | _, [] => []
  | c, e :: X => match nbr c e with
    | some v => v :: follow v X
    | none => follow c X
theorem nbrs_append (c : Int) (A B : List (Int × Int)) : nbrs c (A ++ B) = nbrs c A ++ nbrs c B := List.filterMap_append
theorem nbrs_cons (c : Int) (e : Int × Int) (B : List (Int × Int)) : nbrs c (e :: B) = (nbr c e).toList ++ nbrs c B := by
  unfold nbrs
  rw [List.filterMap_cons]
  cases nbr c e <;> rfl
def IncL (n : Int) (X : List (Int × Int)) : Prop := ∀ e ∈ X, 1 ≤ e.1 ∧ e.1 < e.2 ∧ e.2 ≤ n
theorem nbr_in {n c v : Int} {e : Int × Int} (h : 1 ≤ e.1 ∧ e.1 < e.2 ∧ e.2 ≤ n) (hv : nbr c e = some v) : 1 ≤ v ∧ v ≤ n ∧ ((e.1 = c ∧ e.2 = v) ∨ (e.2 = c ∧ e.1 = v)) ∧ nbr v e = some c := by
  unfold nbr at hv ⊢
  split at hv
  · rename_i h1
    have h2 := Option.some.inj hv
    refine ⟨by omega, by omega, .inl ⟨h1, h2⟩, ?_⟩
    rw [if_neg (by omega), if_pos h2, h1]
  · split at hv
    · rename_i h1 h2
      have h3 := Option.some.inj hv
      refine ⟨by omega, by omega, .inr ⟨h2, h3⟩, ?_⟩
      rw [if_pos h3, h2]
    · cases hv
theorem nbr_both {n c v : Int} {e f : Int × Int} (he : 1 ≤ e.1 ∧ e.1 < e.2 ∧ e.2 ≤ n) (hf : 1 ≤ f.1 ∧ f.1 < f.2 ∧ f.2 ≤ n) (h1 : nbr c e = some v) (h2 : nbr c f = some v) : e = f := by
  have a := (nbr_in he h1).2.2.1
  have b := (nbr_in hf h2).2.2.1
  refine Prod.ext ?_ ?_ <;> omega
/-- the ways are what is followed -/
theorem ways_follow {n : Int} : ∀ {es : List (Int × Int)} {xss : List (List Int)}, IncL n es → ∀ {i : Int}, 1 ≤ i → i ≤ xss.length → row xss i ≠ [] → row (es.foldl wStep xss) i = row xss i ++ follow (lst (row xss i)) es
  | [], _, _, i, _, _, _ => by
    show _ = _ ++ []
    rw [List.append_nil]
    rfl
  | e :: es, xss, hI, i, i1, i2, hne => by
    have he := hI e List.mem_cons_self
    have hr : row (wStep xss e) i = wOne e (row xss i) := row_map i1 i2
    have hl : (wStep xss e).length = xss.length := by
      unfold wStep
      rw [List.length_map]
    show row (es.foldl wStep (wStep xss e)) i = row xss i ++ follow (lst (row xss i)) (e :: es)
    have ih := ways_follow (es := es) (xss := wStep xss e) (fun f hf => hI f (List.mem_cons_of_mem _ hf)) i1 (by omega)
    rw [hr] at ih
    generalize row xss i = w at hne ih ⊢
    unfold wOne at ih
    show _ = w ++ (match nbr (lst w) e with
      | some v => v :: follow v es
      | none => follow (lst w) es)
    by_cases c1 : lst w = e.1
    · rw [if_pos c1] at ih
      have hn : nbr (lst w) e = some e.2 := by
        unfold nbr
        rw [if_pos c1.symm]
      rw [hn, ih (by simp), lst_snoc, List.append_assoc] <;> rfl
    · rw [if_neg c1] at ih
      by_cases c2 : lst w = e.2
      · rw [if_pos c2] at ih
        have hn : nbr (lst w) e = some e.1 := by
          unfold nbr
          rw [if_neg fun z => c1 z.symm, if_pos c2.symm]
        rw [hn, ih (by simp), lst_snoc, List.append_assoc] <;> rfl
      · rw [if_neg c2] at ih
        have hn : nbr (lst w) e = none := by
          unfold nbr
          rw [if_neg fun z => c1 z.symm, if_neg fun z => c2 z.symm]
        rw [hn, ih hne]
theorem row_ways {n : Int} {es : List (Int × Int)} (hI : IncL n es) {i : Int} (i1 : 1 ≤ i) (i2 : i ≤ n) : row (waysF n es) i = i :: follow i es := by
  unfold waysF
  rw [ways_follow hI i1 (by rw [ways0_len]; omega) (by rw [row_ways0 i1 i2]; exact fun z => nomatch z), row_ways0 i1 i2] <;> rfl
theorem ords_nbrs {n : Int} : ∀ {es : List (Int × Int)} {xss : List (List Int)}, IncL n es → (xss.length : Int) = n → ∀ {c : Int}, 1 ≤ c → c ≤ n → row (es.foldl oStep xss) c = row xss c ++ nbrs c es
  | [], _, _, _, c, _, _ => by
    show _ = _ ++ []
    rw [List.append_nil]
    rfl
  | e :: es, xss, hI, hl, c, c1, c2 => by
    obtain ⟨i1, i2, i3⟩ := hI e List.mem_cons_self
    have hl1 : ((oStep xss e).length : Int) = n := by
      unfold oStep
      rw [put_len, put_len]
      exact hl
    show row (es.foldl oStep (oStep xss e)) c = _
    rw [ords_nbrs (es := es) (fun f hf => hI f (List.mem_cons_of_mem _ hf)) hl1 c1 c2, nbrs_cons]
    have hr : row (oStep xss e) c = row xss c ++ (nbr c e).toList := by
      unfold oStep
      rw [row_put (by omega) (by rw [put_len]; omega) c1, row_put (by omega) (by omega) (by omega), row_put (by omega) (by omega) c1]
      unfold nbr
      by_cases d2 : c = e.2
      · rw [if_pos d2, if_neg (by omega), if_neg (by omega), if_pos d2.symm, d2] <;> rfl
      · rw [if_neg d2]
        by_cases d1 : c = e.1
        · rw [if_pos d1, if_pos d1.symm, d1] <;> rfl
        · rw [if_neg d1, if_neg fun z => d1 z.symm, if_neg fun z => d2 z.symm]
          show _ = _ ++ []
          rw [List.append_nil]
    rw [hr, List.append_assoc]
theorem row_ords {n : Int} (hn : 0 ≤ n) {es : List (Int × Int)} (hI : IncL n es) {c : Int} (c1 : 1 ≤ c) (c2 : c ≤ n) : row (ordF n es) c = nbrs c es := by
  unfold ordF
  rw [ords_nbrs hI (by rw [ords0_len]; omega) c1 c2]
  have z : row (ords0 n) c = [] := by
    unfold row ords0
    have hi : (c - 1).toNat < (cs n).length := by
      rw [cs_len]
      omega
    rw [List.getD_eq_getElem?_getD, List.getElem?_map, List.getElem?_eq_getElem hi] <;> rfl
  rw [z, List.nil_append]
/-- the first exchange at a cell -/
theorem first_at (c : Int) : ∀ (X : List (Int × Int)), (nbrs c X = [] ∧ follow c X = []) ∨ ∃ A e B v, X = A ++ e :: B ∧ nbrs c A = [] ∧ nbr c e = some v ∧ nbrs c X = v :: nbrs c B ∧ follow c X = v :: follow v B
  | [] => .inl ⟨rfl, rfl⟩
  | f :: X => by
    rw [nbrs_cons]
    show (_ ∧ (match nbr c f with
      | some v => v :: follow v X
      | none => follow c X) = []) ∨ ∃ A e B v, _ ∧ _ ∧ _ ∧ _ ∧ (match nbr c f with
      | some v => v :: follow v X
      | none => follow c X) = _
    cases h : nbr c f with
    | some v => exact .inr ⟨[], f, X, v, rfl, rfl, h, rfl, rfl⟩
    | none =>
      rcases first_at c X with ⟨z1, z2⟩ | ⟨A, e, B, v, e1, e2, e3, e4, e5⟩
      · exact .inl ⟨z1, z2⟩
      · refine .inr ⟨f :: A, e, B, v, by rw [e1] <;> rfl, ?_, e3, e4, e5⟩
        rw [nbrs_cons, h, e2] <;> rfl
/-- where the exchange is in the order at the other cell -/
theorem after_at {n c v : Int} {es P A B : List (Int × Int)} {e : Int × Int} (hI : IncL n es) (hN : es.Nodup) (hs : es = P ++ (A ++ e :: B)) (hv : nbr c e = some v) :
    nbrs v es = nbrs v (P ++ A) ++ c :: nbrs v B ∧ c ∉ nbrs v (P ++ A) := by
  have he : e ∈ es := by
    rw [hs]
    simp
  have ie := hI e he
  obtain ⟨v1, v2, v3, v4⟩ := nbr_in ie hv
  refine ⟨?_, fun m => ?_⟩
  · rw [hs, ← List.append_assoc, nbrs_append, nbrs_cons, v4] <;> rfl
  · obtain ⟨f, hf, hc⟩ := List.mem_filterMap.mp m
    have hf2 : f ∈ es := by
      rw [hs, ← List.append_assoc]
      exact List.mem_append_left _ hf
    have ef := nbr_both ie (hI f hf2) v4 hc
    rw [hs, ← List.append_assoc] at hN
    obtain ⟨_, _, h3⟩ := List.nodup_append.mp hN
    exact h3 f hf e List.mem_cons_self ef.symm
theorem cut_uniq {c : Int} : ∀ {A A' B B' : List Int}, A ++ c :: B = A' ++ c :: B' → c ∉ A → c ∉ A' → B = B'
  | [], [], _, _, h, _, _ => (List.cons.inj h).2
  | [], a :: A', _, _, h, _, h2 => absurd ((List.cons.inj h).1 ▸ List.mem_cons_self) h2
  | a :: A, [], _, _, h, h1, _ => absurd ((List.cons.inj h).1 ▸ List.mem_cons_self) h1
  | a :: A, a' :: A', _, _, h, h1, h2 => cut_uniq (A := A) (A' := A') (List.cons.inj h).2 (fun m => h1 (List.mem_cons_of_mem _ m)) fun m => h2 (List.mem_cons_of_mem _ m)
/-- the same orders, the same ways -/
theorem follow_same {n : Int} {es fs : List (Int × Int)} (hI : IncL n es) (hN : es.Nodup) (hJ : IncL n fs) (hM : fs.Nodup) (h : ∀ c, 1 ≤ c → c ≤ n → nbrs c es = nbrs c fs) :
    ∀ (m : Nat) {c : Int} {P B P' B' : List (Int × Int)}, B.length ≤ m → 1 ≤ c → c ≤ n → es = P ++ B → fs = P' ++ B' → nbrs c B = nbrs c B' → follow c B = follow c B'
  | m, c, P, B, P', B', hm, c1, c2, e1, e2, hb => by
    rcases first_at c B with ⟨z1, z2⟩ | ⟨A, e, D, v, a1, a2, a3, a4, a5⟩
    · rcases first_at c B' with ⟨y1, y2⟩ | ⟨A', e', D', v', b1, b2, b3, b4, b5⟩
      · rw [z2, y2]
      · rw [z1, b4] at hb
        cases hb
    · rcases first_at c B' with ⟨y1, y2⟩ | ⟨A', e', D', v', b1, b2, b3, b4, b5⟩
      · rw [a4, y1] at hb
        cases hb
      · rw [a4, b4] at hb
        obtain ⟨ev, hb'⟩ := List.cons.inj hb
        subst ev
        have he : e ∈ es := by
          rw [e1, a1]
          simp
        obtain ⟨v1, v2, _⟩ := nbr_in (hI e he) a3
        obtain ⟨p1, p2⟩ := after_at hI hN (by rw [← a1]; exact e1) a3
        obtain ⟨q1, q2⟩ := after_at hJ hM (by rw [← b1]; exact e2) b3
        have hD : nbrs v D = nbrs v D' := cut_uniq (by rw [← p1, ← q1]; exact h v v1 v2) p2 q2
        match m with
        | 0 =>
          rw [a1, List.length_append, List.length_cons] at hm
          omega
        | m + 1 =>
          rw [a5, b5]
          rw [a1, List.length_append, List.length_cons] at hm
          rw [follow_same hI hN hJ hM h m (P := P ++ (A ++ [e])) (P' := P' ++ (A' ++ [e'])) (by omega) v1 v2 (by rw [e1, a1]; simp) (by rw [e2, b1]; simp) hD]
theorem ords_ways {n : Int} (hn : 0 ≤ n) {es fs : List (Int × Int)} (hI : IncL n es) (hN : es.Nodup) (hJ : IncL n fs) (hM : fs.Nodup) (h : ordF n es = ordF n fs) : waysF n es = waysF n fs := by
  have hb : ∀ c, 1 ≤ c → c ≤ n → nbrs c es = nbrs c fs := fun c c1 c2 => by rw [← row_ords hn hI c1 c2, ← row_ords hn hJ c1 c2, h]
  refine ext_row (by rw [waysF_len, waysF_len]) fun i i1 i2 => ?_
  rw [waysF_len] at i2
  rw [row_ways hI i1 (by omega), row_ways hJ i1 (by omega), follow_same hI hN hJ hM hb es.length (P := []) (P' := []) (Nat.le_refl _) i1 (by omega) rfl rfl (hb i i1 (by omega))]
theorem ords_ends {n : Int} (hn : 0 ≤ n) {es fs : List (Int × Int)} (hI : IncL n es) (hN : es.Nodup) (hJ : IncL n fs) (hM : fs.Nodup) (h : ordF n es = ordF n fs) : endsF n es = endsF n fs := by
  unfold endsF
  rw [ords_ways hn hI hN hJ hM h]
/-- two neighbours without a common cell change places -/
theorem nbrs_swap {c : Int} {x y : Int × Int} (h1 : x.1 ≠ y.1) (h2 : x.1 ≠ y.2) (h3 : x.2 ≠ y.1) (h4 : x.2 ≠ y.2) (A B : List (Int × Int)) : nbrs c (A ++ (x :: y :: B)) = nbrs c (A ++ (y :: x :: B)) := by
  rw [nbrs_append, nbrs_append, nbrs_cons, nbrs_cons, nbrs_cons, nbrs_cons]
  congr 1
  have : nbr c x = none ∨ nbr c y = none := by
    unfold nbr
    by_cases a : x.1 = c
    · right
      rw [if_neg (by omega), if_neg (by omega)]
    · by_cases b : x.2 = c
      · right
        rw [if_neg (by omega), if_neg (by omega)]
      · left
        rw [if_neg a, if_neg b]
  rcases this with h | h <;> rw [h] <;> simp
theorem ords_of_nbrs {n : Int} (hn : 0 ≤ n) {es fs : List (Int × Int)} (hI : IncL n es) (hJ : IncL n fs) (h : ∀ c, nbrs c es = nbrs c fs) : ordF n es = ordF n fs := by
  have l : ∀ X : List (Int × Int), (ordF n X).length = n.toNat := fun X => by
    unfold ordF
    rw [ordF_len', ords0_len]
  refine ext_row (by rw [l, l]) fun i i1 i2 => ?_
  rw [l] at i2
  rw [row_ords hn hI i1 (by omega), row_ords hn hJ i1 (by omega), h]
end Un

set_option maxRecDepth 100000
set_option maxHeartbeats 8000000
namespace Un
open PySem PySem.Spec PyProof.Rows L2
theorem eqv_ints : ∀ ns ms : List Int, PyData.eqvAll (ns.map PyData.int) (ms.map PyData.int) = decide (ns = ms)
  | [], [] => by simp [PyData.eqvAll]
  | [], m :: ms => by simp [PyData.eqvAll]
  | n :: ns, [] => by simp [PyData.eqvAll]
  | n :: ns, m :: ms => by
    show PyData.eqvAll (PyData.int n :: ns.map PyData.int) (PyData.int m :: ms.map PyData.int) = _
    rw [PyData.eqvAll, eqv_ints ns ms, Bool.eq_iff_iff]
    simp [PyData.eqv]
theorem eqv_L (ns ms : List Int) : PyData.eqv (dL ns) (dL ms) = decide (ns = ms) := by
  unfold dL
  rw [PyData.eqv]
  exact eqv_ints ns ms
theorem eqv_lists : ∀ xs ys : List (List Int), PyData.eqvAll (xs.map dL) (ys.map dL) = decide (xs = ys)
  | [], [] => by simp [PyData.eqvAll]
  | [], m :: ms => by simp [PyData.eqvAll]
  | n :: ns, [] => by simp [PyData.eqvAll]
  | n :: ns, m :: ms => by
    show PyData.eqvAll (dL n :: ns.map dL) (dL m :: ms.map dL) = _
    rw [PyData.eqvAll, eqv_lists ns ms, eqv_L, Bool.eq_iff_iff]
    simp
theorem eqv_LL (xs ys : List (List Int)) : PyData.eqv (dLL xs) (dLL ys) = decide (xs = ys) := by
  unfold dLL
  rw [PyData.eqv]
  exact eqv_lists xs ys
theorem fine_small {n : Int} (n16 : n ≤ 16) {m : Nat} {xss : List (List Int)} (h : Small n m xss) (hm : m ≤ 130) (hl : xss.length ≤ 16) : Fine 2 2096 (dLL xss) := by
  refine (fine_LL (L := 130) (M := 16) (fun xs hx => ⟨fun c hc => ?_, ?_⟩) hl).mono (Nat.le_refl _) (by decide)
  · have := (h xs hx).2 c hc
    omega
  · have := (h xs hx).1
    omega
theorem fine_ways {n : Int} (n16 : n ≤ 16) {es : List (Int × Int)} (hI : Inb n es) (hl : es.length < 64) : Fine 2 2096 (dLL (waysF n es)) :=
  fine_small n16 (waysF_small hI) (by omega) (by rw [waysF_len]; omega)
theorem ordF_len {n : Int} (es : List (Int × Int)) : (ordF n es).length = n.toNat := by
  unfold ordF
  rw [ordF_len', ords0_len]
theorem fine_ords {n : Int} (n1 : 1 ≤ n) (n16 : n ≤ 16) {es : List (Int × Int)} (hI : Inb n es) (hl : es.length < 64) : Fine 2 2096 (dLL (ordF n es)) :=
  fine_small n16 (ordF_small (by omega) hI) (by omega) (by rw [ordF_len]; omega)
section
variable {P : Program} {w : World} {K : PySem.W.Frag} {mg : Str → Option Value} {base : Heap}
/-- a log -/
structure LogAt (H : Hp) (n : Int) (a : Addr) (es : List (Int × Int)) : Prop where
  at_ : WebL H a es
  inb : Inb n es
  nd : es.Nodup
  few : es.length < 64
theorem LogAt.same {H H' : Hp} {n : Int} {a : Addr} {es : List (Int × Int)} (h : LogAt H n a es) (s : Same H H') : LogAt H' n a es := ⟨h.at_.same s, h.inb, h.nd, h.few⟩
def kindB (n : Int) (es fs : List (Int × Int)) : Bool := decide (ordF n es = ordF n fs)
def spKind : Sp := fun vs H Q _ => ∃ (n : Int) (a b : Addr) (es fs : List (Int × Int)), vs = [.int n, .ref a, .ref b] ∧ 1 ≤ n ∧ n ≤ 16 ∧ LogAt H n a es ∧ LogAt H n b fs ∧ ∀ H' : Hp, Same H H' → Q (.bl (kindB n es fs)) H'
theorem ok_kind {f : Addr} {fd : FuncData} (F : Fun K "are_one_kind" "are_one_kind" s_are_one_kind f fd) (C : ChkCals P w K mg base) (c : C8.Cal P w K mg base 1 "orders_of" (spLL ordF) []) : FnOk P w K mg base CX0 5 f fd ["cells", "log", "other"] spKind := by
  refine F.ok sc_are_one_kind (fun vs H Q E h => ?_) (fun cdv A outer s H vs Q E hr h => ?_)
  · obtain ⟨n, a, b, es, fs, rfl, _⟩ := h
    rfl
  · obtain ⟨n, a, b, es, fs, rfl, n1, n16, hA, hB, q⟩ := h
    refine ⟨_, (pss_cons (ps_expr (C8.pe_c C.cc hr (by decide) (by rfl) (pa_cons (pv 0) pa_nil)))
      (pss_cons (ps_expr (C8.pe_c C.cl hr (by decide) (by rfl) (pa_cons (pv 0) (pa_cons (pv 1) pa_nil))))
      (pss_cons (ps_expr (C8.pe_c C.cl hr (by decide) (by rfl) (pa_cons (pv 0) (pa_cons (pv 2) pa_nil))))
      (pss_one (ps_ret (pe_cmpR (op_eqD hr.units) (C8.pe_c c hr (by decide) (by rfl) (pa_cons (pv 0) (pa_cons (pv 1) pa_nil))) (C8.pe_c c hr (by decide) (by rfl) (pa_cons (pv 0) (pa_cons (pv 2) pa_nil))) (by rfl))))))), ?_⟩
    refine ⟨_, rfl, n, rfl, n1, n16, ?_⟩
    refine ⟨_, rfl, _, rfl, n, a, es, rfl, hA.at_, hA.nd, hA.few, hA.inb, fun H1 s1 => ?_⟩
    refine ⟨_, rfl, _, rfl, n, b, fs, rfl, hB.at_.same s1, hB.nd, hB.few, hB.inb, fun H2 s2 => ?_⟩
    have A2 := (hA.same s1).same s2
    have B2 := (hB.same s1).same s2
    refine ⟨_, rfl, _, rfl, n, a, es, rfl, A2.at_, n1, n16, hA.inb, hA.nd, hA.few, fun H3 p as s3 np na nd hL => ?_⟩
    refine ⟨_, rfl, _, rfl, n, b, fs, rfl, B2.at_.same s3, n1, n16, hB.inb, hB.nd, hB.few, fun H4 r bs s4 nr nb nd2 hM => ?_⟩
    refine ⟨_, _, (hL.same s4).dp, hM.dp, (fine_ords n1 n16 hA.inb hA.few).shaped (by decide), (fine_ords n1 n16 hB.inb hB.few).shaped (by decide), ?_⟩
    rw [eqv_LL]
    exact q _ (s1.trans (s2.trans (s3.trans s4)))
theorem cut_from (xs : List V) (k : Nat) : cutV xs (some (k : Int)) none = xs.drop k := by
  unfold cutV
  rw [HT.sIx_none, HT.sIx_nat]
  by_cases h : k ≤ xs.length
  · rw [Nat.min_eq_left h, List.take_of_length_le (by rw [List.length_drop]; omega)]
  · rw [Nat.min_eq_right (by omega), List.drop_length, List.take_nil, List.drop_eq_nil_of_le (by omega)]
theorem eqV_int (x k : Int) : eqV (.int x) (.int k) = decide (x = k) := by
  rw [Bool.eq_iff_iff, decide_eq_true_eq]
  constructor
  · intro h
    simp [eqV] at h
    omega
  · intro h
    simp [eqV, h]
theorem flat_ints (ns : List Int) : (ns.map V.int).all flatV = true := by
  rw [List.all_eq_true]
  intro x hx
  obtain ⟨i, _, rfl⟩ := List.mem_map.mp hx
  rfl
theorem len_follow_ok {a b c d : Nat} (h : a + (b + (c + 1)) ≤ d) : a + 1 + c ≤ d := by omega
/-! ### the walk -/
def spWalk : Sp := fun vs H Q _ => ∃ (n k : Int) (p : Addr) (as : List Addr) (es : List (Int × Int)), vs = [.ref p, .int k] ∧ LLAt H p as (ordF n es) ∧ 1 ≤ k ∧ k ≤ n ∧ n ≤ 16 ∧ Inb n es ∧ es.Nodup ∧ es.length < 64 ∧
  ∀ (H' : Hp) (r : Addr), Same H H' → H r = none → H' r = some (.lst ((row (waysF n es) k).map V.int)) → Q (.ref r) H'
theorem ok_walk {f : Addr} {fd : FuncData} {j : Nat} (F : Fun K "_law_walk" "_law_walk" s_l_walk f fd) (T : Txt mg) : FnOk P w K mg base CX0 (j + 1) f fd ["_law_around", "_law_k"] spWalk := by
  refine F.ok sc_l_walk (fun vs H Q E h => ?_) (fun cdv A outer s H vs Q E hr h => ?_)
  · obtain ⟨n, k, p, as, es, rfl, _⟩ := h
    rfl
  · obtain ⟨n, k, p, as, es, rfl, hL, k1, kn, n16, hI, hN, hl, q⟩ := h
    refine ⟨_, (pss_cons (ps_set (i := 2) sc_l_walk.nd rfl (by first | exact Or.inl rfl | exact Or.inr rfl) (pe_lst (pa_cons (pv 1) pa_nil)))
      (pss_cons (ps_set (i := 3) sc_l_walk.nd rfl (by first | exact Or.inl rfl | exact Or.inr rfl) (pe_ix ix_list (pv 0) (pe_op op_sub (pv 1) pe_int) (fun _ _ => rfl)))
      (pss_cons (ps_while PassesOwn.never (pt_cmpR (op_neD hr.units) (pv 3) (pe_lst pa_nil) (by rfl)) (pss_cons (ps_set (i := 4) sc_l_walk.nd rfl (by first | exact Or.inl rfl | exact Or.inr rfl) (pe_ix ix_list (pv 3) pe_int (fun _ _ => rfl)))
        (pss_cons (ps_set (i := 5) sc_l_walk.nd rfl (by first | exact Or.inl rfl | exact Or.inr rfl) (pe_ix ix_list (pv 0) (pe_op op_sub (pv 4) pe_int) (fun _ _ => rfl)))
        (pss_cons (ps_set (i := 3) sc_l_walk.nd rfl (by first | exact Or.inl rfl | exact Or.inr rfl) (pe_slice sl_list (pv 5) (po_some (pe_op op_add (pe_bm PySem.F.plainAttrs_list PySem.F.slot_list_index PySem.F.type_list_index mt_index (pv 5) (pa_cons (pe_ix ix_list (pv 2) (pe_un un_neg pe_int) (fun _ _ => rfl)) pa_nil)) pe_int)) po_none))
        (pss_one (ps_expr (pe_bm PySem.F.plainAttrs_list PySem.F.slot_list_append PySem.F.type_list_append mt_append (pv 2) (pa_cons (pv 4) pa_nil))))))))
      (pss_one (ps_ret (pv 2)))))), ?_⟩
    obtain ⟨b0, _, g2, g3, _⟩ := hL.2.row k1 (by rw [ordF_len]; omega)
    refine ⟨_, rfl, (by show 1 ≤ sizeLine; decide), fun t nt => ?_⟩
    have s1 := same_upd (o := .lst [.int k]) nt
    have L1 := hL.same s1
    have ht1 : (upd H t (.lst [.int k])) t = some (.lst ([k].map V.int)) := upd_same
    have g31 := s1 _ _ g3
    have tb0 : t ≠ b0 := fun z => by
      rw [z, g3] at nt
      cases nt
    rw [row_ords (by omega) hI k1 kn] at g31
    generalize upd H t (.lst [.int k]) = H1 at s1 L1 ht1 g31 ⊢
    refine ⟨_, rfl, _, rfl, k, 1, rfl, rfl, p, _, k - 1, _, rfl, rfl, sqL_of L1.1, g2, ?_⟩
    refine while_by (fun σ H' => ∃ (lf : Addr) (acc : List Int) (P B : List (Int × Int)) (v4 v5 : Option V), σ = [some (.ref p), some (.int k), some (.ref t), some (.ref lf), v4, v5] ∧ Same H H' ∧ H' t = some (.lst (acc.map V.int)) ∧ acc ≠ [] ∧ es = P ++ B ∧ 1 ≤ lst acc ∧ lst acc ≤ n ∧
        H' lf = some (.lst ((nbrs (lst acc) B).map V.int)) ∧ t ≠ lf ∧ acc ++ follow (lst acc) B = k :: follow k es ∧ acc.length + B.length ≤ 1 + es.length) (fun σ H' => 200 - lenAt H' σ[2]?)
      ⟨b0, [k], [], es, none, none, rfl, s1, ht1, by simp, rfl, k1, kn, g31, tb0, rfl, by simp⟩ ?_ ?_
    · rintro σ H2 ⟨lf, acc, P, B, v4, v5, rfl, s2, ht2, hne, hes, c1, c2, hlf, tlf, hfo, hln⟩
      refine ⟨_, rfl, Nat.zero_le _, fun L nL => ?_⟩
      have s3 := same_upd (o := .lst []) nL
      have lnb : (nbrs (lst acc) B).length ≤ 64 := by
        refine Nat.le_trans (List.length_filterMap_le _ _) ?_
        rw [hes, List.length_append] at hl
        omega
      have inb : ∀ x ∈ nbrs (lst acc) B, 1 ≤ x ∧ x ≤ n := fun x hx => by
        obtain ⟨e, he, hv⟩ := List.mem_filterMap.mp hx
        have := nbr_in (hI e (by rw [hes]; exact List.mem_append_right _ he)) hv
        exact ⟨this.1, this.2.1⟩
      have fL : Fine 1 64 (dL (nbrs (lst acc) B)) := fine_L (L := 64) (fun x hx => by have := inb x hx; omega) lnb
      have fN : Fine 1 64 (dL []) := fine_L (L := 64) (fun x hx => (List.not_mem_nil hx).elim) (by decide)
      refine ⟨dL (nbrs (lst acc) B), dL [], dp_L (sqL_of (s3 _ _ hlf)), dp_L (ns := []) (sqL_of upd_same), fL.shaped (by decide), fN.shaped (by decide), _, rfl, ?_⟩
      rw [eqv_L]
      have ht3 := s3 _ _ ht2
      have hlf3 := s3 _ _ hlf
      have S3 := s2.trans s3
      have hln2 : lenAt H2 (some (some (.ref t))) = acc.length := by
        unfold lenAt
        simp only [ht2, List.length_map]
      generalize upd H2 L (.lst []) = H3 at ht3 hlf3 S3 ⊢
      rcases first_at (lst acc) B with ⟨z1, z2⟩ | ⟨A, e, D, v, a1, a2, a3, a4, a5⟩
      · rw [z1]
        refine iteF ?_
        rw [z2, List.append_nil] at hfo
        refine ⟨_, rfl, q H3 t S3 nt ?_⟩
        rw [row_ways hI k1 kn, ← hfo]
        exact ht3
      · rw [a4] at hlf3 ⊢
        refine iteT ?_
        have he : e ∈ es := by
          rw [hes, a1]
          simp
        obtain ⟨v1, v2, _⟩ := nbr_in (hI e he) a3
        obtain ⟨p1, p2⟩ := after_at hI hN (by rw [← a1]; exact hes) a3
        have L3 := hL.same S3
        obtain ⟨b, _, k2, k3, _⟩ := L3.2.row v1 (by rw [ordF_len]; omega)
        rw [row_ords (by omega) hI v1 v2, p1] at k3
        have tb : t ≠ b := fun z => by
          obtain ⟨b', _, y2, y3, _⟩ := hL.2.row v1 (by rw [ordF_len]; omega)
          have : b' = b := V.ref.inj (Option.some.inj (y2.symm.trans k2))
          rw [z, ← this, y3] at nt
          cases nt
        refine ⟨_, rfl, lf, _, 0, .int v, rfl, rfl, sqL_of hlf3, atI_nat (j := 0) rfl, ?_⟩
        refine ⟨_, rfl, _, rfl, v, 1, rfl, rfl, p, _, v - 1, _, rfl, rfl, sqL_of L3.1, k2, ?_⟩
        have hX : ((nbrs v (P ++ A) ++ lst acc :: nbrs v D).map V.int)[(nbrs v (P ++ A)).length]? = some (.int (lst acc)) := by
          rw [List.getElem?_map, List.getElem?_append_right (Nat.le_refl _), Nat.sub_self] <;> rfl
        refine ⟨_, rfl, _, rfl, .inl ⟨rfl, _, sqL_of k3⟩, _, rfl, 1, rfl, t, _, -1, _, rfl, rfl, sqL_of ht3, atI_last' hne, b, _, _, (nbrs v (P ++ A)).length, _, rfl, rfl, sqL_of k3, rfl, flat_ints _, hX, by rw [eqV_int, decide_eq_true rfl], ?_, _, 1, rfl, rfl, _, rfl, b, _, rfl, sqL_of k3, fun nl hnl => ?_⟩
        · intro m z' hm hz'
          rw [List.getElem?_map, List.getElem?_append_left hm, List.getElem?_eq_getElem hm] at hz'
          have ez := Option.some.inj hz'
          rw [← ez, eqV_int]
          exact decide_eq_false fun w => p2 (by rw [← w]; exact List.getElem_mem hm)
        have ec : cutV ((nbrs v (P ++ A) ++ lst acc :: nbrs v D).map V.int) (some ((((nbrs v (P ++ A)).length : Nat) : Int) + 1)) none = (nbrs v D).map V.int := by
          rw [show (((nbrs v (P ++ A)).length : Nat) : Int) + 1 = (((nbrs v (P ++ A)).length + 1 : Nat) : Int) by omega, cut_from, ← List.map_drop, List.drop_append, List.drop_eq_nil_of_le (by omega), Nat.add_sub_cancel_left] <;> rfl
        rw [ec]
        have s4 := same_upd (o := .lst ((nbrs v D).map V.int)) hnl
        have ht4 := s4 _ _ ht3
        have tnl : t ≠ nl := fun z => by
          rw [← z, ht3] at hnl
          cases hnl
        refine ⟨_, rfl, .inl ⟨rfl, _, sqL_of ht4⟩, _, rfl, t, _, _, rfl, rfl, ht4, ?_, ?_⟩
        · rw [List.length_map]
          exact small1000 (by omega)
        have lB : B.length = A.length + (D.length + 1) := by rw [a1, List.length_append, List.length_cons]
        have ls := lst_snoc acc v
        have hup : lenAt (upd (upd H3 nl (.lst ((nbrs v D).map V.int))) t (.lst (acc.map V.int ++ [V.int v]))) (some (some (.ref t))) = acc.length + 1 := by
          unfold lenAt
          simp only [upd_same, List.length_append, List.length_map, List.length_cons, List.length_nil]
        refine ⟨⟨nl, acc ++ [v], P ++ (A ++ [e]), D, _, _, rfl, Same.mut (S3.trans s4) nt, by rw [upd_same, map_snoc], by simp, by rw [hes, a1]; simp, by rw [ls]; exact v1, by rw [ls]; exact v2, ?_, tnl, ?_, ?_⟩, ?_⟩
        · rw [upd_ne tnl.symm, upd_same, ls]
        · rw [ls, List.append_assoc, ← hfo, a5] <;> rfl
        · rw [List.length_append, List.length_cons, List.length_nil]
          omega
        · show 200 - lenAt (upd (upd H3 nl (.lst ((nbrs v D).map V.int))) t (.lst (acc.map V.int ++ [V.int v]))) (some (some (.ref t))) < 200 - lenAt H2 (some (some (.ref t)))
          rw [hup, hln2]
          omega
    · rintro σ H1 Q1 Q2 imp ⟨v, e, h0, h⟩
      refine ⟨v, e, h0, fun p hp => ?_⟩
      obtain ⟨d1, d2, a1, a2, a3, a4, k1, e1, q1⟩ := h p hp
      exact ⟨d1, d2, a1, a2, a3, a4, k1, e1, imp _ _ q1⟩
end
end Un

set_option maxRecDepth 100000
set_option maxHeartbeats 8000000
namespace Un
open PySem PySem.Spec PyProof.Rows L2
theorem inV_pair (k a b : Int) : inV (.int k) [.int a, .int b] = (decide (a = k) || decide (b = k)) := by
  unfold inV
  simp [eqV_int]
theorem prs_drop {H : Hp} : ∀ (k : Nat) {ts : List Addr} {es : List (Int × Int)}, Prs H ts es → Prs H (ts.drop k) (es.drop k)
  | 0, _, _, h => h
  | _ + 1, _, _, .nil => .nil
  | k + 1, _, _, .cons _ q => prs_drop k q
theorem swap_at {α : Type} {l : List α} {i : Nat} {x y : α} (h1 : l[i]? = some x) (h2 : l[i + 1]? = some y) : l = l.take i ++ (x :: y :: l.drop (i + 2)) := by
  obtain ⟨i1, e1⟩ := List.getElem?_eq_some_iff.mp h1
  obtain ⟨i2, e2⟩ := List.getElem?_eq_some_iff.mp h2
  have a := List.take_append_drop i l
  rw [List.drop_eq_getElem_cons i1, e1, List.drop_eq_getElem_cons i2, e2] at a
  exact a.symm
section
variable {P : Program} {w : World} {K : PySem.W.Frag} {mg : Str → Option Value} {base : Heap}
def spShaken : Sp := fun vs H Q _ => ∃ (d a : Addr) (k : Nat) (es : List (Int × Int)), vs = [.ref d, .ref a] ∧ Drw H d k ∧ k < 2 ^ 20 ∧ WebL H a es ∧ es.length < 64 ∧
  ∀ (H' : Hp) (p : Addr) (es' : List (Int × Int)) (k' : Nat), SameBut (· = d) H H' → H p = none → WebL H' p es' → es'.Perm es → (∀ c, nbrs c es' = nbrs c es) → Drw H' d k' → k' ≤ k + 200 → Q (.ref p) H'
theorem ok_shaken {f : Addr} {fd : FuncData} (F : Fun K "_law_shaken" "_law_shaken" s_l_shaken f fd) (T : Txt mg) (c : C8.Cal P w K mg base 1 "_law_next" spNext []) : FnOk P w K mg base CX0 2 f fd ["_law_draws_here", "_law_made"] spShaken := by
  refine F.ok sc_l_shaken (fun vs H Q E h => ?_) (fun cdv A outer s H vs Q E hr h => ?_)
  · obtain ⟨d, a, k, es, rfl, _⟩ := h
    rfl
  · obtain ⟨d, a, k, es, rfl, hd, hk, ⟨ts, ha, hP⟩, hl, q⟩ := h
    refine ⟨_, (pss_cons (ps_set (i := 2) sc_l_shaken.nd rfl (by first | exact Or.inl rfl | exact Or.inr rfl) (pe_callTy call_list_of (by rfl) T.n_list (by decide +kernel) (pa_cons (pv 1) pa_nil)))
      (pss_cons (ps_for PassesOwn.never rfl (pi_range1 (by rfl) T.n_range (pa_cons (pe_op op_mul pe_int (pe_callB call_len_seq (by rfl) T.n_len (by decide +kernel) (pa_cons (pv 1) pa_nil))) pa_nil)) (pg_name (i := 3) sc_l_shaken.nd rfl (by first | exact Or.inl rfl | exact Or.inr rfl)) (pss_cons (ps_set (i := 4) sc_l_shaken.nd rfl (by first | exact Or.inl rfl | exact Or.inr rfl) (pe_op op_mod (pe_callTy call_int1 (by rfl) T.n_int (by decide +kernel) (pa_cons (C8.pe_c c hr (by decide) (by rfl) (pa_cons (pv 0) pa_nil)) pa_nil)) (pe_callB call_len_seq (by rfl) T.n_len (by decide +kernel) (pa_cons (pv 1) pa_nil))))
        (pss_cons (ps_par (i := 5) (j := 6) rfl sc_l_shaken.nd rfl rfl (by decide) rfl rfl (pa_cons (pe_ix ix_list (pv 2) (pv 4) (fun _ _ => rfl)) (pa_cons (pe_ix ix_list (pv 2) (pe_op op_mod (pe_op op_add (pv 4) pe_int) (pe_callB call_len_seq (by rfl) T.n_len (by decide +kernel) (pa_cons (pv 1) pa_nil))) (fun _ _ => rfl)) pa_nil)) (by rfl))
        (pss_one (ps_if (PW.pt (pw_and (pt_cmpR op_lt (pe_op op_add (pv 4) pe_int) (pe_callB call_len_seq (by rfl) T.n_len (by decide +kernel) (pa_cons (pv 1) pa_nil)) (by rfl)) (pw_and (pt_cmpR op_notIn_seq (pe_ix ix_tup (pv 5) pe_int (fun _ _ => rfl)) (pv 6) (by rfl)) (pw_and1 (pt_cmpR op_notIn_seq (pe_ix ix_tup (pv 5) pe_int (fun _ _ => rfl)) (pv 6) (by rfl)))))) (pss_one (ps_set (i := 2) sc_l_shaken.nd rfl (by first | exact Or.inl rfl | exact Or.inr rfl) (pe_op op_cat (pe_op op_cat (pe_slice sl_list (pv 2) po_none (po_some (pv 4))) (pe_lst (pa_cons (pv 6) (pa_cons (pv 5) pa_nil)))) (pe_slice sl_list (pv 2) (po_some (pe_op op_add (pv 4) pe_int)) po_none)))) pss_nil)))))
      (pss_one (ps_ret (pv 2))))), ?_⟩
    refine ⟨_, rfl, a, _, rfl, .inl (sqL_of ha), fun l nl => ?_⟩
    have s1 := same_upd (o := .lst (ts.map V.ref)) nl
    have nld : l ≠ d := fun z => hd.is (H' := H) (z ▸ nl)
    have ad : a ≠ d := fun z => by
      obtain ⟨_, _, e', _⟩ := hd
      rw [← z, ha] at e'
      have e2 := HO.lst.inj (Option.some.inj e')
      cases ts with
      | nil => cases e2
      | cons t ts => cases e2
    have tk : ∀ {H' : Hp}, SameBut (· = d) H H' → ∀ t xs, H t = some (.tup xs) → H' t = some (.tup xs) := fun b t xs e => b _ _ (fun z => by
      obtain ⟨_, _, e', _⟩ := hd
      rw [z, e'] at e
      cases e) e
    have lts : ts.length = es.length := hP.length
    refine ⟨_, rfl, a, _, rfl, .inl (sqL_of (s1 _ _ ha)), 3, _, rfl, rfl, .inl (by decide), _, rfl, ?_, ?_, ?_⟩
    · rw [List.length_map]
      omega
    · rw [List.length_map]
      omega
    refine for_range (lo := 0) (n := (3 * (((ts.map V.ref).length : Nat) : Int)).toNat) (fun t σ H' => ∃ (tl : Addr) (us : List Addr) (fs : List (Int × Int)) (v3 v4 v5 v6 : Option V), σ = [some (.ref d), some (.ref a), some (.ref tl), v3, v4, v5, v6] ∧ SameBut (· = d) H H' ∧ H tl = none ∧
        H' tl = some (.lst (us.map V.ref)) ∧ Prs H' us fs ∧ fs.Perm es ∧ (∀ c, nbrs c fs = nbrs c es) ∧ Drw H' d (k + t))
      ⟨l, ts, es, none, none, none, none, rfl, Same.but s1, nl, upd_same, hP.keep fun t xs e => s1 _ _ e, List.Perm.refl _, fun _ => rfl, hd.keep fun o e => s1 _ _ e⟩ ?_ ?_
    · rintro t σ H1 ht ⟨tl, us, fs, v3, v4, v5, v6, rfl, b1, ntl, htl, hPu, pm, hnb, dr⟩
      rw [List.length_map, lts] at ht
      have tld : tl ≠ d := fun z => hd.is (H' := H) (z ▸ ntl)
      have m0 : 0 < es.length := by omega
      have lf : fs.length = es.length := pm.length_eq
      have lu : us.length = es.length := hPu.length.trans lf
      refine ⟨_, rfl, d, k + t, rfl, dr, by omega, fun H2 x b2 dr2 z2 => .inl ⟨x, rfl, ?_⟩⟩
      have ha2 : H2 a = some (.lst (ts.map V.ref)) := b2 _ _ ad (b1 _ _ ad ha)
      have htl2 := b2 _ _ tld htl
      have hPu2 : Prs H2 us fs := hPu.keep fun t' xs e => b2 _ _ (fun z => by
        obtain ⟨_, _, e', _⟩ := dr
        rw [z, e'] at e
        cases e) e
      have b12 := b1.trans b2
      clear htl hPu b2 dr
      refine ⟨_, rfl, a, _, rfl, .inl (sqL_of ha2), x, _, rfl, rfl, (by show (0 : Int) < ((ts.map V.ref).length : Nat); rw [List.length_map, lts]; omega), ?_⟩
      have eq : (((ts.map V.ref).length : Nat) : Int) = (es.length : Int) := by rw [List.length_map, lts]
      obtain ⟨i1, i2⟩ := ix_mod (x := x) m0
      have e1 := Int.emod_nonneg x (show (es.length : Int) ≠ 0 by omega)
      have hx : x % (((ts.map V.ref).length : Nat) : Int) = (((x % (es.length : Int)).toNat : Nat) : Int) := by
        rw [eq]
        omega
      clear i1 e1
      generalize (x % (es.length : Int)).toNat = i at i2 hx
      have hu : us[i]? = some us[i]! := by
        rw [getElem!_pos us _ (by omega)]
        exact List.getElem?_eq_getElem _
      generalize us[i]! = t1 at hu
      obtain ⟨x1, hx1, ht1⟩ := hPu2.get hu
      have j2 : (i + 1) % es.length < es.length := Nat.mod_lt _ m0
      have hu2 : us[(i + 1) % es.length]? = some us[(i + 1) % es.length]! := by
        rw [getElem!_pos us _ (by omega)]
        exact List.getElem?_eq_getElem _
      generalize us[(i + 1) % es.length]! = t2 at hu2
      obtain ⟨y1, hy1, ht2⟩ := hPu2.get hu2
      have ej : (x % (((ts.map V.ref).length : Nat) : Int) + 1) % (((ts.map V.ref).length : Nat) : Int) = (((i + 1) % es.length : Nat) : Int) := by
        rw [hx, eq, Int.natCast_emod] <;> rfl
      have pos : (0 : Int) < (((ts.map V.ref).length : Nat) : Int) := by
        rw [eq]
        omega
      refine ⟨_, rfl, _, rfl, tl, _, _, .ref t1, rfl, rfl, sqL_of htl2, by rw [hx]; exact atI_nat (by rw [List.getElem?_map, hu] <;> rfl), _, rfl, _, rfl, _, 1, rfl, rfl, _, rfl, a, _, rfl, .inl (sqL_of ha2), _, _, rfl, rfl, pos, tl, _, _, .ref t2, rfl, rfl, sqL_of htl2, by rw [ej]; exact atI_nat (by rw [List.getElem?_map, hu2] <;> rfl), _, _, rfl, ?_⟩
      have back : ∀ v3' v4' v5' v6' : Option V, ∃ (tl' : Addr) (us' : List Addr) (fs' : List (Int × Int)) (w3 w4 w5 w6 : Option V), [some (V.ref d), some (V.ref a), some (V.ref tl), v3', v4', v5', v6'] = [some (V.ref d), some (V.ref a), some (V.ref tl'), w3, w4, w5, w6] ∧ SameBut (· = d) H H2 ∧ H tl' = none ∧
        H2 tl' = some (.lst (us'.map V.ref)) ∧ Prs H2 us' fs' ∧ fs'.Perm es ∧ (∀ c, nbrs c fs' = nbrs c es) ∧ Drw H2 d (k + (t + 1)) := fun v3' v4' v5' v6' => ⟨tl, us, fs, v3', v4', v5', v6', rfl, b12, ntl, htl2, hPu2, pm, hnb, dr2⟩
      refine ⟨_, rfl, _, 1, rfl, rfl, _, rfl, a, _, rfl, .inl (sqL_of ha2), _, _, rfl, rfl, _, rfl, ite2 (fun c => ?_) (fun c => iteF (back _ _ _ _))⟩
      have ci : i + 1 < es.length := by
        have c2 := of_decide_eq_true c
        rw [hx, eq] at c2
        omega
      have ej2 : (i + 1) % es.length = i + 1 := Nat.mod_eq_of_lt ci
      rw [ej2] at hu2 hy1
      refine ⟨_, rfl, t1, _, 0, .int x1.1, rfl, rfl, sqT_of ht1, atI_nat (j := 0) rfl, _, rfl, t2, [.int y1.1, .int y1.2], rfl, .inr (sqT_of ht2), rfl, rfl, _, rfl, ite2 (fun d1 => ?_) (fun _ => iteF (back _ _ _ _))⟩
      have d1' : inV (.int x1.1) [.int y1.1, .int y1.2] = false := by
        have z : (!inV (.int x1.1) [.int y1.1, .int y1.2]) = true := d1
        rw [Bool.not_eq_true'] at z
        exact z
      refine ⟨_, rfl, t1, _, 1, .int x1.2, rfl, rfl, sqT_of ht1, atI_nat (j := 1) rfl, _, rfl, t2, [.int y1.1, .int y1.2], rfl, .inr (sqT_of ht2), rfl, rfl, _, rfl, ite2 (fun d2 => ?_) (fun _ => back _ _ _ _)⟩
      have d2' : inV (.int x1.2) [.int y1.1, .int y1.2] = false := by
        have z : (!inV (.int x1.2) [.int y1.1, .int y1.2]) = true := d2
        rw [Bool.not_eq_true'] at z
        exact z
      rw [inV_pair, Bool.or_eq_false_iff, decide_eq_false_iff_not, decide_eq_false_iff_not] at d1' d2'
      refine ⟨_, rfl, _, rfl, _, rfl, tl, _, rfl, sqL_of htl2, fun q1 n1 => ?_⟩
      have u1 := same_upd (o := .lst (cutV (us.map V.ref) none (some (x % (((ts.map V.ref).length : Nat) : Int))))) n1
      have g1 : (upd H2 q1 (.lst (cutV (us.map V.ref) none (some (x % (((ts.map V.ref).length : Nat) : Int)))))) q1 = some (.lst ((us.take i).map V.ref)) := by
        rw [upd_same, hx, cut_to, ← List.map_take]
      generalize upd H2 q1 (.lst (cutV (us.map V.ref) none (some (x % (((ts.map V.ref).length : Nat) : Int))))) = H3 at u1 g1 ⊢
      refine ⟨_, rfl, _, rfl, (by show 2 ≤ sizeLine; decide), fun q2 n2 => ?_⟩
      have u2 := same_upd (o := .lst [.ref t2, .ref t1]) n2
      have g2 : (upd H3 q2 (.lst [.ref t2, .ref t1])) q2 = some (.lst [.ref t2, .ref t1]) := upd_same
      have g12 := u2 _ _ g1
      generalize upd H3 q2 (.lst [.ref t2, .ref t1]) = H4 at u2 g2 g12 ⊢
      refine ⟨q1, q2, _, _, rfl, rfl, g12, g2, ?_, fun q3 n3 => ?_⟩
      · rw [List.length_map, List.length_take]
        show min i us.length + 2 ≤ sizeLine
        have := small1000 (n := min i us.length + 2) (by omega)
        omega
      have u3 := same_upd (o := .lst ((us.take i).map V.ref ++ [.ref t2, .ref t1])) n3
      have g3 : (upd H4 q3 (.lst ((us.take i).map V.ref ++ [.ref t2, .ref t1]))) q3 = some (.lst ((us.take i).map V.ref ++ [.ref t2, .ref t1])) := upd_same
      have u03 := u1.trans (u2.trans u3)
      generalize upd H4 q3 (.lst ((us.take i).map V.ref ++ [.ref t2, .ref t1])) = H5 at u3 g3 u03 ⊢
      refine ⟨_, rfl, _, rfl, _, 2, rfl, rfl, _, rfl, tl, _, rfl, sqL_of (u03 _ _ htl2), fun q4 n4 => ?_⟩
      have u4 := same_upd (o := .lst (cutV (us.map V.ref) (some (x % (((ts.map V.ref).length : Nat) : Int) + 2)) none)) n4
      have g4 : (upd H5 q4 (.lst (cutV (us.map V.ref) (some (x % (((ts.map V.ref).length : Nat) : Int) + 2)) none))) q4 = some (.lst ((us.drop (i + 2)).map V.ref)) := by
        rw [upd_same, hx, show ((i : Nat) : Int) + 2 = ((i + 2 : Nat) : Int) by omega, cut_from, ← List.map_drop]
      have g34 := u4 _ _ g3
      have u04 := u03.trans u4
      generalize upd H5 q4 (.lst (cutV (us.map V.ref) (some (x % (((ts.map V.ref).length : Nat) : Int) + 2)) none)) = H6 at u4 g4 g34 u04 ⊢
      refine ⟨q3, q4, _, _, rfl, rfl, g34, g4, ?_, fun q5 n5 => ?_⟩
      · rw [List.length_append, List.length_map, List.length_map, List.length_take, List.length_drop]
        show min i us.length + 2 + (us.length - (i + 2)) ≤ sizeLine
        have := small1000 (n := min i us.length + 2 + (us.length - (i + 2))) (by omega)
        omega
      have u5 := same_upd (o := .lst ((us.take i).map V.ref ++ [.ref t2, .ref t1] ++ (us.drop (i + 2)).map V.ref)) n5
      have u05 := u04.trans u5
      have g5 : (upd H6 q5 (.lst ((us.take i).map V.ref ++ [.ref t2, .ref t1] ++ (us.drop (i + 2)).map V.ref))) q5 = some (.lst ((us.take i ++ (t2 :: t1 :: us.drop (i + 2))).map V.ref)) := by
        rw [upd_same, List.map_append, List.append_assoc] <;> rfl
      have efs := swap_at hx1 hy1
      have hP5 : Prs (upd H6 q5 (.lst ((us.take i).map V.ref ++ [.ref t2, .ref t1] ++ (us.drop (i + 2)).map V.ref))) (us.take i ++ (t2 :: t1 :: us.drop (i + 2))) (fs.take i ++ (y1 :: x1 :: fs.drop (i + 2))) := by
        have k := hPu2.keep (H' := upd H6 q5 (.lst ((us.take i).map V.ref ++ [.ref t2, .ref t1] ++ (us.drop (i + 2)).map V.ref))) fun t' xs e => u05 _ _ e
        exact Prs.append (k.take i) (.cons (u05 _ _ ht2) (.cons (u05 _ _ ht1) (prs_drop (i + 2) k)))
      have q50 : H q5 = none := by
        refine b12.freshN (fun b hb => ?_) (u04.free n5)
        subst hb
        exact dr2.is (H' := H2)
      refine ⟨q5, _, fs.take i ++ (y1 :: x1 :: fs.drop (i + 2)), _, _, _, _, rfl, b12.trans (Same.but u05), q50, g5, hP5, ?_, fun c => ?_, dr2.keep fun o e => u05 _ _ e⟩
      · refine List.Perm.trans ?_ pm
        conv => rhs; rw [efs]
        exact List.Perm.append_left _ (List.Perm.swap _ _ _)
      · rw [← hnb c]
        conv => rhs; rw [efs]
        exact (nbrs_swap (fun z => d1'.1 z.symm) (fun z => d1'.2 z.symm) (fun z => d2'.1 z.symm) (fun z => d2'.2 z.symm) _ _).symm
    · rintro σ H1 ⟨tl, us, fs, v3, v4, v5, v6, rfl, b1, ntl, htl, hPu, pm, hnb, dr⟩
      refine ⟨_, rfl, q H1 tl fs _ b1 ntl ⟨us, htl, hPu⟩ pm hnb dr ?_⟩
      rw [List.length_map, lts]
      omega
end
end Un

set_option maxRecDepth 100000
set_option maxHeartbeats 8000000
namespace Un
open PySem PySem.Spec PyProof.Rows L2
def gRev3 {α : Type} : List α → List α → List α := fun _ zs => match zs with
  | [a, b, c] => [c, b, a]
  | l => l
theorem gRev3_rel {vs : List V} {us : List Value} {zs : List V} {ws : List Value} (_ : Vals vs us) (r : Vals zs ws) : Vals (gRev3 vs zs) (gRev3 us ws) := by
  cases r with
  | nil => exact .nil
  | cons r1 r =>
    cases r with
    | nil => exact .cons r1 .nil
    | cons r2 r =>
      cases r with
      | nil => exact .cons r1 (.cons r2 .nil)
      | cons r3 r =>
        cases r with
        | nil => exact .cons r3 (.cons r2 (.cons r1 .nil))
        | cons r4 r => exact .cons r1 (.cons r2 (.cons r3 (.cons r4 r)))
theorem kind_symm (n : Int) (es fs : List (Int × Int)) : kindB n fs es = kindB n es fs := decide_eq_decide.mpr ⟨Eq.symm, Eq.symm⟩
theorem fine_pair {D m : Nat} {d e : PyData} (h1 : Fine D m d) (h2 : Fine D m e) : Fine (D + 1) (2 * (m + 1)) (.list [d, e]) := Fine.list (fun x hx => by
  rcases List.mem_cons.mp hx with rfl | hx
  · exact h1
  · rw [List.mem_singleton.mp hx]
    exact h2) (Nat.le_refl _)
theorem fine_three {D m : Nat} {d e f : PyData} (h1 : Fine D m d) (h2 : Fine D m e) (h3 : Fine D m f) : Fine (D + 1) (3 * (m + 1)) (.list [d, e, f]) := Fine.list (fun x hx => by
  rcases List.mem_cons.mp hx with rfl | hx
  · exact h1
  · rcases List.mem_cons.mp hx with rfl | hx
    · exact h2
    · rw [List.mem_singleton.mp hx]
      exact h3) (Nat.le_refl _)
theorem lst_mem {w : List Int} (h : w ≠ []) : lst w ∈ w := by
  unfold lst
  rw [List.getLastD_eq_getLast?, List.getLast?_eq_some_getLast h]
  exact List.getLast_mem h
theorem endsF_len {n : Int} (es : List (Int × Int)) : (endsF n es).length = n.toNat := by
  unfold endsF
  rw [List.length_map, waysF_len]
theorem fine_ends' {n : Int} (n1 : 1 ≤ n) (n16 : n ≤ 16) {es : List (Int × Int)} (hI : Inb n es) : Fine 1 16 (dL (endsF n es)) := by
  refine fine_L (L := 16) (fun c hc => ?_) (by rw [endsF_len]; omega)
  obtain ⟨w, hw, rfl⟩ := List.mem_map.mp hc
  have := (waysF_small hI w hw).2 _ (lst_mem (ways_ne (by omega) hI w hw))
  omega
section
variable {P : Program} {w : World} {K : PySem.W.Frag} {mg : Str → Option Value} {base : Heap}
structure TwoCals (P : Program) (w : World) (K : PySem.W.Frag) (mg : Str → Option Value) (base : Heap) : Prop where
  lo : C8.Cal P w K mg base 1 "_law_orders" (spLL ordF) []
  kc : C8.Cal P w K mg base 5 "are_one_kind" spKind []
  kk : KCal P w K mg base 5 "are_one_kind" spKind ["other", "log", "cells"] gRev3
  ec : C8.Cal P w K mg base 5 "ends" spEnds []
def spTwo : Sp := fun vs H Q _ => ∃ (n : Int) (a b : Addr) (es fs : List (Int × Int)), vs = [.int n, .ref a, .ref b] ∧ 1 ≤ n ∧ n ≤ 16 ∧ LogAt H n a es ∧ LogAt H n b fs ∧ ∀ H' : Hp, Same H H' → Q (.bl true) H'
theorem ok_two {f : Addr} {fd : FuncData} (F : Fun K "_law_two_right" "_law_two_right" s_l_two_right f fd) (T : Txt mg) (C : TwoCals P w K mg base) : FnG P w K mg base 6 f fd ["_law_size", "_law_made", "_law_second"] spTwo := by
  refine fnG_ok F sc_l_two_right (fun vs H Q E h => ?_) (fun cdv A outer s H vs Q hg hr h => ?_)
  · obtain ⟨n, a, b, es, fs, rfl, _⟩ := h
    rfl
  · obtain ⟨n, a, b, es, fs, rfl, n1, n16, hA, hB, q⟩ := h
    refine ⟨_, (pss_cons (ps_set (i := 3) sc_l_two_right.nd rfl (by first | exact Or.inl rfl | exact Or.inr rfl) (pe_cmpR (op_eqD hr.units) (C8.pe_c C.lo hr (by decide) (by rfl) (pa_cons (pv 0) (pa_cons (pv 1) pa_nil))) (C8.pe_c C.lo hr (by decide) (by rfl) (pa_cons (pv 0) (pa_cons (pv 2) pa_nil))) (by rfl)))
      (pss_cons (ps_set (i := 4) sc_l_two_right.nd rfl (by first | exact Or.inl rfl | exact Or.inr rfl) (pe_callB (call_reprD hg hr.units) (by rfl) T.n_repr (by decide +kernel) (pa_cons (pe_lst (pa_cons (pv 1) (pa_cons (pv 2) pa_nil))) pa_nil)))
      (pss_cons (ps_set (i := 5) sc_l_two_right.nd rfl (by first | exact Or.inl rfl | exact Or.inr rfl) (pe_lst (pa_cons (C8.pe_c C.kc hr (by decide) (by rfl) (pa_cons (pv 0) (pa_cons (pv 1) (pa_cons (pv 2) pa_nil)))) (pa_cons (C8.pe_c C.kc hr (by decide) (by rfl) (pa_cons (pv 0) (pa_cons (pv 2) (pa_cons (pv 1) pa_nil)))) pa_nil))))
      (pss_cons (ps_expr (pe_bm PySem.F.plainAttrs_list PySem.F.slot_list_append PySem.F.type_list_append mt_append (pv 5) (pa_cons (pe_kc C.kk hr (by decide) (by rfl) (pk_cons (pv 2) (pk_cons (pv 1) (pk_cons (pv 0) pk_nil)))) pa_nil)))
      (pss_cons (ps_if (PW.pt (pw_or (pt_cmpR op_ne (pe_callB (call_reprD hg hr.units) (by rfl) T.n_repr (by decide +kernel) (pa_cons (pv 5) pa_nil)) (pe_callB (call_reprD hg hr.units) (by rfl) T.n_repr (by decide +kernel) (pa_cons (pe_op op_rep (pe_lst (pa_cons (pv 3) pa_nil)) pe_int) pa_nil)) (by rfl)) (pw_or1 (pt_cmpR op_ne (pe_callB (call_reprD hg hr.units) (by rfl) T.n_repr (by decide +kernel) (pa_cons (pe_lst (pa_cons (pv 1) (pa_cons (pv 2) pa_nil))) pa_nil)) (pv 4) (by rfl))))) (pss_one (ps_ret pe_bl)) pss_nil)
      (pss_one (ps_ret (pe_or (pe_not (pv 3)) (pe_one (pe_cmpR (op_eqD hr.units) (C8.pe_c C.ec hr (by decide) (by rfl) (pa_cons (pv 0) (pa_cons (pv 1) pa_nil))) (C8.pe_c C.ec hr (by decide) (by rfl) (pa_cons (pv 0) (pa_cons (pv 2) pa_nil))) (by rfl))))))))))), ?_⟩
    have fW : Fine 2 600 (dW es) := fine_web n16 hA.inb (by have := hA.few; omega)
    have fV : Fine 2 600 (dW fs) := fine_web n16 hB.inb (by have := hB.few; omega)
    have fWV := fine_pair fW fV
    -- same
    refine ⟨_, rfl, _, rfl, n, a, es, rfl, hA.at_, n1, n16, hA.inb, hA.nd, hA.few, fun H1 p as s1 np na nd hL => ?_⟩
    refine ⟨_, rfl, _, rfl, n, b, fs, rfl, hB.at_.same s1, n1, n16, hB.inb, hB.nd, hB.few, fun H2 r bs s2 nr nb nd2 hM => ?_⟩
    refine ⟨_, _, (hL.same s2).dp, hM.dp, (fine_ords n1 n16 hA.inb hA.few).shaped (by decide), (fine_ords n1 n16 hB.inb hB.few).shaped (by decide), ?_⟩
    rw [eqv_LL, show decide (ordF n es = ordF n fs) = kindB n es fs from rfl]
    have S2 := s1.trans s2
    have A2 := hA.same S2
    have B2 := hB.same S2
    clear hL hM np na nd nr nb nd2
    -- kept
    refine ⟨_, rfl, _, rfl, (by show 2 ≤ sizeLine; decide), fun L nL => ?_⟩
    have s3 := same_upd (o := .lst [.ref a, .ref b]) nL
    refine ⟨L, _, rfl, dp2 upd_same (A2.same s3).at_.at.dp (B2.same s3).at_.at.dp, rOk fWV, ?_⟩
    have S3 := S2.trans s3
    have A3 := A2.same s3
    have B3 := B2.same s3
    generalize upd H2 L (.lst [.ref a, .ref b]) = H3 at s3 S3 A3 B3 ⊢
    -- told
    refine ⟨_, rfl, _, rfl, _, rfl, n, a, b, es, fs, rfl, n1, n16, A3, B3, fun H4 s4 => ?_⟩
    have A4 := A3.same s4
    have B4 := B3.same s4
    refine ⟨_, rfl, _, rfl, _, rfl, n, b, a, fs, es, rfl, n1, n16, B4, A4, fun H5 s5 => ?_⟩
    rw [kind_symm n es fs]
    have A5 := A4.same s5
    have B5 := B4.same s5
    refine ⟨(by show 2 ≤ sizeLine; decide), fun t nt => ?_⟩
    have s6 := same_upd (o := .lst [.bl (kindB n es fs), .bl (kindB n es fs)]) nt
    have ht : (upd H5 t (.lst [.bl (kindB n es fs), .bl (kindB n es fs)])) t = some (.lst [.bl (kindB n es fs), .bl (kindB n es fs)]) := upd_same
    have S6 := S3.trans (s4.trans (s5.trans s6))
    have A6 := A5.same s6
    have B6 := B5.same s6
    have nt0 : H t = none := S3.free (s4.free (s5.free nt))
    generalize upd H5 t (.lst [.bl (kindB n es fs), .bl (kindB n es fs)]) = H6 at s6 ht S6 A6 B6 ⊢
    refine ⟨_, rfl, .inl ⟨rfl, _, sqL_of ht⟩, _, rfl, _, rfl, _, rfl, rfl, n, a, b, es, fs, rfl, n1, n16, A6, B6, fun H7 s7 => ⟨t, _, _, rfl, rfl, s7 _ _ ht, (by show 2 < sizeLine; decide), ?_⟩⟩
    have S8 : Same H (upd H7 t (.lst ([.bl (kindB n es fs), .bl (kindB n es fs)] ++ [.bl (kindB n es fs)]))) := Same.mut (S6.trans s7) nt0
    have ht8 : (upd H7 t (.lst ([.bl (kindB n es fs), .bl (kindB n es fs)] ++ [.bl (kindB n es fs)]))) t = some (.lst [.bl (kindB n es fs), .bl (kindB n es fs), .bl (kindB n es fs)]) := upd_same
    have A8 := hA.same S8
    have B8 := hB.same S8
    generalize upd H7 t (.lst ([.bl (kindB n es fs), .bl (kindB n es fs)] ++ [.bl (kindB n es fs)])) = H8 at S8 ht8 A8 B8 ⊢
    have fB : Fine 1 3 (.list [.bool (kindB n es fs), .bool (kindB n es fs), .bool (kindB n es fs)]) := (fine_three (Fine.bool _) (Fine.bool _) (Fine.bool _)).mono (Nat.le_refl _) (by decide)
    refine ⟨_, rfl, t, _, rfl, .lst (sqL_of ht8) (.cons (.bl _) (.cons (.bl _) (.cons (.bl _) .nil))), rOk fB, ?_⟩
    refine ⟨_, rfl, (by show 1 ≤ sizeLine; decide), fun z nz => ?_⟩
    have s9 := same_upd (o := .lst [.bl (kindB n es fs)]) nz
    refine ⟨z, 3, [.bl (kindB n es fs)], rfl, rfl, upd_same, by omega, by omega, (by show 3 ≤ sizeLine; decide), fun y ny => ?_⟩
    have s10 := same_upd (o := .lst (List.replicate (3 : Int).toNat [V.bl (kindB n es fs)]).flatten) ny
    have hy : (upd (upd H8 z (.lst [.bl (kindB n es fs)])) y (.lst (List.replicate (3 : Int).toNat [V.bl (kindB n es fs)]).flatten)) y = some (.lst [.bl (kindB n es fs), .bl (kindB n es fs), .bl (kindB n es fs)]) := upd_same
    refine ⟨y, _, rfl, .lst (sqL_of hy) (.cons (.bl _) (.cons (.bl _) (.cons (.bl _) .nil))), rOk fB, rfl, false, str_ne, iteF ?_⟩
    have s810 := s9.trans s10
    have S10 := S8.trans s810
    have A10 := A8.same s810
    have B10 := B8.same s810
    generalize upd (upd H8 z (.lst [.bl (kindB n es fs)])) y (.lst (List.replicate (3 : Int).toNat [V.bl (kindB n es fs)]).flatten) = H10 at s810 S10 A10 B10 ⊢
    clear s9 s10 hy
    refine ⟨_, rfl, _, rfl, (by show 2 ≤ sizeLine; decide), fun M nM => ?_⟩
    have s11 := same_upd (o := .lst [.ref a, .ref b]) nM
    refine ⟨M, _, rfl, dp2 upd_same (A10.same s11).at_.at.dp (B10.same s11).at_.at.dp, rOk fWV, _, rfl, rfl, false, str_ne, iteF ?_⟩
    have S11 := S10.trans s11
    have A11 := A10.same s11
    have B11 := B10.same s11
    generalize upd H10 M (.lst [.ref a, .ref b]) = H11 at s11 S11 A11 B11 ⊢
    refine ⟨_, rfl, _, rfl, _, rfl, ite2 (fun _ => q _ S11) (fun c => ?_)⟩
    have hk : ordF n es = ordF n fs := by
      have c2 : kindB n es fs = true := by
        cases h : kindB n es fs with
        | true => rfl
        | false => exact absurd (by rw [h] <;> rfl) c
      exact of_decide_eq_true c2
    have he : endsF n es = endsF n fs := ords_ends (by omega) hA.inb hA.nd hB.inb hB.nd hk
    refine ⟨_, rfl, _, rfl, n, a, es, rfl, A11.at_, n1, n16, hA.inb, hA.nd, hA.few, fun H12 p1 s12 np1 hp1 => ?_⟩
    refine ⟨_, rfl, _, rfl, n, b, fs, rfl, B11.at_.same s12, n1, n16, hB.inb, hB.nd, hB.few, fun H13 p2 s13 np2 hp2 => ?_⟩
    refine ⟨_, _, dp_L (sqL_of (s13 _ _ hp1)), dp_L (sqL_of hp2), (fine_ends' n1 n16 hA.inb).shaped (by decide), (fine_ends' n1 n16 hB.inb).shaped (by decide), ?_⟩
    rw [eqv_L, decide_eq_true he]
    exact q _ (S11.trans (s12.trans s13))
end
end Un

set_option maxRecDepth 100000
set_option maxHeartbeats 8000000
namespace Un
open PySem PySem.Spec PyProof.Rows L2
theorem asc_nodup {es : List (Int × Int)} (h : Asc es) : es.Nodup := by
  unfold Asc at h
  refine List.Pairwise.imp ?_ h
  rintro a b h1 rfl
  unfold Lt2 at h1
  omega
theorem WebL.nd {H : Hp} {a d : Addr} {k : Nat} {es : List (Int × Int)} (h : WebL H a es) (dr : Drw H d k) : a ≠ d := fun z => by
  obtain ⟨ts, ha, _⟩ := h
  obtain ⟨_, _, e', _⟩ := dr
  rw [← z, ha] at e'
  have e2 := HO.lst.inj (Option.some.inj e')
  cases ts with
  | nil => cases e2
  | cons t ts => cases e2
theorem WebL.butd {H H' : Hp} {a d : Addr} {k : Nat} {es : List (Int × Int)} (h : WebL H a es) (dr : Drw H d k) (b : SameBut (· = d) H H') : WebL H' a es := by
  have ad := h.nd dr
  obtain ⟨ts, ha, hP⟩ := h
  refine ⟨ts, b _ _ ad ha, hP.keep fun t xs e => b _ _ (fun z => ?_) e⟩
  obtain ⟨_, _, e', _⟩ := dr
  rw [z, e'] at e
  cases e
theorem LogAt.butd {H H' : Hp} {n : Int} {a d : Addr} {k : Nat} {es : List (Int × Int)} (h : LogAt H n a es) (dr : Drw H d k) (b : SameBut (· = d) H H') : LogAt H' n a es := ⟨h.at_.butd dr b, h.inb, h.nd, h.few⟩
theorem cut_last (xs : List V) : cutV xs none (some (-1)) = xs.take (xs.length - 1) := by
  unfold cutV
  have h : HT.sIx xs.length xs.length (some (-1)) = xs.length - 1 := by
    show (if (-1 : Int) < 0 then ((-1 : Int) + (xs.length : Int)).toNat else min (-1 : Int).toNat xs.length) = _
    rw [if_pos (by decide)]
    omega
  rw [HT.sIx_none, h, List.drop_zero, Nat.sub_zero]
theorem LogAt.take {H : Hp} {n : Int} {a : Addr} {es : List (Int × Int)} (h : LogAt H n a es) (j : Nat) {H' : Hp} {b : Addr} (hb : WebL H' b (es.take j)) : LogAt H' n b (es.take j) :=
  ⟨hb, fun e he => h.inb e (List.mem_of_mem_take he), List.Nodup.sublist (List.take_sublist _ _) h.nd, by
    rw [List.length_take]
    have := h.few
    omega⟩
theorem rows_all {n : Int} {xss : List (List Int)} (h : xss.length = n.toNat) : xss = (cs n).map (row xss) := by
  refine List.ext_getElem (by rw [List.length_map, cs_len, h]) fun i h1 h2 => ?_
  rw [List.getElem_map]
  have g2 : (cs n)[i]? = some (1 + (i : Int)) := by
    unfold cs
    rw [List.getElem?_map, List.getElem?_range (by omega)] <;> rfl
  have h3 : i < (cs n).length := by
    rw [cs_len]
    omega
  rw [List.getElem?_eq_getElem h3] at g2
  rw [Option.some.inj g2]
  unfold row
  rw [show (1 + (i : Int) - 1).toNat = i by omega, List.getD_eq_getElem?_getD, List.getElem?_eq_getElem h1] <;> rfl
section
variable {P : Program} {w : World} {K : PySem.W.Frag} {mg : Str → Option Value} {base : Heap}
structure RightCals (P : Program) (w : World) (K : PySem.W.Frag) (mg : Str → Option Value) (base : Heap) : Prop where
  lg : C8.Cal P w K mg base 2 "_law_log" spLog []
  wb : C8.Cal P w K mg base 2 "_law_web" spWeb []
  lo : C8.Cal P w K mg base 1 "_law_orders" (spLL ordF) []
  wk : C8.Cal P w K mg base 1 "_law_walk" spWalk []
  sh : C8.Cal P w K mg base 2 "_law_shaken" spShaken []
  tw : CalG P w K mg base 6 "_law_two_right" spTwo
  kc : C8.Cal P w K mg base 5 "are_one_kind" spKind []
  wc : C8.Cal P w K mg base 5 "ways" (spLL waysF) []
  oc : C8.Cal P w K mg base 5 "orders" (spLL ordF) []
  ec : C8.Cal P w K mg base 5 "ends" spEnds []
def spRight : Sp := fun vs H Q _ => ∃ (d a : Addr) (n : Int) (k : Nat) (web : List (Int × Int)), vs = [.ref d, .int n, .ref a] ∧ Drw H d k ∧ k < 2 ^ 19 ∧ WebL H a web ∧ 1 ≤ n ∧ n ≤ 16 ∧ Asc web ∧ Inb n web ∧ web.length < 64 ∧
  ∀ (H' : Hp) (k' : Nat), SameBut (· = d) H H' → Drw H' d k' → k' ≤ k + 600 → Q (.bl true) H'
theorem ok_l_right {f : Addr} {fd : FuncData} (F : Fun K "_law_right" "_law_right" s_l_right f fd) (T : Txt mg) (C : RightCals P w K mg base) : FnG P w K mg base 7 f fd ["_law_draws_here", "_law_size", "_law_some"] spRight := by
  refine fnG_ok F sc_l_right (fun vs H Q E h => ?_) (fun cdv A outer s H vs Q hg hr h => ?_)
  · obtain ⟨d, a, n, k, web, rfl, _⟩ := h
    rfl
  · obtain ⟨d, a, n, k, web, rfl, dr, hk, hV, n1, n16, hA, hI, hl, q⟩ := h
    refine ⟨_, (pss_cons (ps_set (i := 3) sc_l_right.nd rfl (by first | exact Or.inl rfl | exact Or.inr rfl) (C8.pe_c C.lg hr (by decide) (by rfl) (pa_cons (pv 0) (pa_cons (pv 2) pa_nil))))
      (pss_cons (ps_set (i := 4) sc_l_right.nd rfl (by first | exact Or.inl rfl | exact Or.inr rfl) (pe_callB (call_reprD hg hr.units) (by rfl) T.n_repr (by decide +kernel) (pa_cons (pv 3) pa_nil)))
      (pss_cons (ps_set (i := 5) sc_l_right.nd rfl (by first | exact Or.inl rfl | exact Or.inr rfl) (C8.pe_c C.oc hr (by decide) (by rfl) (pa_cons (pv 1) (pa_cons (pv 3) pa_nil))))
      (pss_cons (ps_if (PW.pt (pw_or (pt_cmpR (op_neD hr.units) (C8.pe_c C.wc hr (by decide) (by rfl) (pa_cons (pv 1) (pa_cons (pv 3) pa_nil))) (pe_lc (own := [("_law_k", 11)]) rfl sc_l_right.nd (pi_range2 (by rfl) T.n_range (pa_cons pe_int (pa_cons (pe_op op_add (pv 1) pe_int) pa_nil))) (blkOk_by (by kernel_rfl)) (fun _ _ _ _ _ => (pg_name (i := 11) sc_l_right.nd rfl (by first | exact Or.inl rfl | exact Or.inr rfl))) (fun _ _ _ _ _ => pts_nil) (fun _ _ _ _ _ => (C8.pe_c C.wk hr (by decide) (by rfl) (pa_cons (pv 5) (pa_cons (pv 11) pa_nil))))) (by rfl)) (pw_or1 (pt_cmpR (op_neD hr.units) (pv 5) (C8.pe_c C.lo hr (by decide) (by rfl) (pa_cons (pv 1) (pa_cons (pv 3) pa_nil))) (by rfl))))) (pss_one (ps_ret pe_bl)) pss_nil)
      (pss_cons (ps_set (i := 6) sc_l_right.nd rfl (by first | exact Or.inl rfl | exact Or.inr rfl) (C8.pe_c C.sh hr (by decide) (by rfl) (pa_cons (pv 0) (pa_cons (pv 3) pa_nil))))
      (pss_cons (ps_set (i := 7) sc_l_right.nd rfl (by first | exact Or.inl rfl | exact Or.inr rfl) (pe_callB (call_reprD hg hr.units) (by rfl) T.n_repr (by decide +kernel) (pa_cons (pv 6) pa_nil)))
      (pss_cons (ps_if (PW.pt (pw_or (pt_not (pt_val (C8.pe_c C.kc hr (by decide) (by rfl) (pa_cons (pv 1) (pa_cons (pv 3) (pa_cons (pv 6) pa_nil)))))) (pw_or (pt_cmpR op_ne (pe_callB (call_reprD hg hr.units) (by rfl) T.n_repr (by decide +kernel) (pa_cons (pv 6) pa_nil)) (pv 7) (by rfl)) (pw_or1 (pt_cmpR (op_neD hr.units) (C8.pe_c C.ec hr (by decide) (by rfl) (pa_cons (pv 1) (pa_cons (pv 6) pa_nil))) (C8.pe_c C.ec hr (by decide) (by rfl) (pa_cons (pv 1) (pa_cons (pv 3) pa_nil))) (by rfl)))))) (pss_one (ps_ret pe_bl)) pss_nil)
      (pss_cons (ps_set (i := 8) sc_l_right.nd rfl (by first | exact Or.inl rfl | exact Or.inr rfl) (C8.pe_c C.lg hr (by decide) (by rfl) (pa_cons (pv 0) (pa_cons (pv 2) pa_nil))))
      (pss_cons (ps_if (PW.pt (pw_or (pt_not (pt_val (pe_cG hg C.tw hr (by decide) (by rfl) (pa_cons (pv 1) (pa_cons (pv 3) (pa_cons (pv 8) pa_nil)))))) (pw_or1 (pt_not (pt_val (pe_cG hg C.tw hr (by decide) (by rfl) (pa_cons (pv 1) (pa_cons (pv 3) (pa_cons (pe_slice sl_list (pv 3) po_none (po_some (pe_un un_neg pe_int))) pa_nil))))))))) (pss_one (ps_ret pe_bl)) pss_nil)
      (pss_cons (ps_set (i := 9) sc_l_right.nd rfl (by first | exact Or.inl rfl | exact Or.inr rfl) (C8.pe_c C.lg hr (by decide) (by rfl) (pa_cons (pv 0) (pa_cons (pe_ix ix_tup (C8.pe_c C.wb hr (by decide) (by rfl) (pa_cons (pv 0) (pa_cons (pv 1) (pa_cons pe_int pa_nil)))) pe_int (fun _ _ => rfl)) pa_nil))))
      (pss_cons (ps_setLc (i := 10) (own := [("_law_pair", 12)]) rfl sc_l_right.nd rfl rfl (sw_true rfl rfl rfl (by decide +kernel)) (pi_list (pv 9)) (blkOk_by (by kernel_rfl)) (fun _ _ _ _ _ => (pg_name (i := 12) sc_l_right.nd rfl (by first | exact Or.inl rfl | exact Or.inr rfl))) (fun _ _ _ _ _ => (pts_one (pt_cmpR op_le (pe_ix (r := rIxT K) ix_tup (pv 12) pe_int (fun _ _ => rfl)) (pv 1) (by rfl)))) (fun _ _ _ _ _ => (pv 12)))
      (pss_cons (ps_if (PW.pt (pw_or (pt_not (pt_val (pe_cG hg C.tw hr (by decide) (by rfl) (pa_cons (pv 1) (pa_cons (pv 3) (pa_cons (pv 10) pa_nil)))))) (pw_or1 (pt_not (pt_val (pe_cG hg C.tw hr (by decide) (by rfl) (pa_cons (pv 1) (pa_cons (pv 10) (pa_cons (pv 10) pa_nil))))))))) (pss_one (ps_ret pe_bl)) pss_nil)
      (pss_one (ps_ret (pe_cmpR op_eq (pe_callB (call_reprD hg hr.units) (by rfl) T.n_repr (by decide +kernel) (pa_cons (pv 3) pa_nil)) (pv 4) (by rfl)))))))))))))))), ?_⟩
    have small : ∀ e ∈ web, e.1.natAbs < 10 ^ 12 ∧ e.2.natAbs < 10 ^ 12 := fun e he => by
      have := hI e he
      omega
    have logOf : ∀ {H' : Hp} {p : Addr} {es : List (Int × Int)}, WebL H' p es → es.Perm web → LogAt H' n p es := fun hp pm => ⟨hp, fun e he => hI e (pm.mem_iff.mp he), pm.nodup_iff.mpr (asc_nodup hA), by rw [pm.length_eq]; exact hl⟩
    -- made
    refine ⟨_, rfl, _, rfl, d, a, k, web, rfl, dr, by omega, hV, hl, small, fun H1 m es k1 b1 nm hm pm1 dr1 hk1 => ?_⟩
    have M1 := logOf hm pm1
    have V1 := hV.butd dr b1
    have fW : Fine 2 600 (dW es) := fine_web n16 M1.inb (by have := M1.few; omega)
    refine ⟨_, rfl, m, _, rfl, hm.at.dp, rOk fW, ?_⟩
    -- around
    refine ⟨_, rfl, _, rfl, n, m, es, rfl, hm, n1, n16, M1.inb, M1.nd, M1.few, fun H2 ar as s2 nar _ _ hAr => ?_⟩
    have M2 := M1.same s2
    -- ways, walks
    refine ⟨_, rfl, _, rfl, n, m, es, rfl, M2.at_, n1, n16, M1.inb, M1.nd, M1.few, fun H3 wy wr s3 nwy _ _ hWy => ?_⟩
    have A3 := hAr.same s3
    have M3 := M2.same s3
    refine ⟨_, rfl, n, 1, rfl, rfl, 1, n + 1, rfl, by omega, fun E nE => ?_⟩
    have en : (n + 1 - 1).toNat = n.toNat := by omega
    refine lc_range (lo := 1) (n := (n + 1 - 1).toNat) (fun j H' => ∃ bs : List Addr, Same H3 H' ∧ LLAt H' E bs (((cs n).take j).map (row (waysF n es)))) ⟨[], same_upd nE, upd_same, .nil⟩ ?_ ?_
    · rintro j H4 hj ⟨bs, s4, hE⟩
      rw [en] at hj
      refine ⟨rfl, yes (iteT ?_)⟩
      refine ⟨_, rfl, _, rfl, n, 1 + (j : Int), ar, as, es, rfl, A3.same s4, by omega, by omega, n16, M1.inb, M1.nd, M1.few, fun H5 r s5 nr hr5 => ?_⟩
      have rE : r ≠ E := fun z => by
        rw [z, hE.1] at nr
        cases nr
      have hlb : bs.length ≤ 16 := by
        rw [hE.2.length, List.length_map, List.length_take, cs_len]
        omega
      refine ⟨_, s5 _ _ hE.1, by rw [List.length_map]; exact small1000 (by omega), bs ++ [r], Same.mut (s4.trans s5) nE, by rw [upd_same, map_snoc], ?_⟩
      rw [cs_take n j hj, map_snoc]
      refine Rws.append (hE.2.keep fun b hb o e => ?_) (.cons ?_ .nil)
      · rw [upd_ne fun z => hE.out (by rw [← z]; exact hb)]
        exact s5 _ _ e
      · rw [upd_ne rE]
        exact hr5
    · rintro H4 ⟨bs, s4, hE⟩
      rw [en, show (cs n).take n.toNat = cs n by rw [← cs_len n, List.take_length], ← rows_all (waysF_len es)] at hE
      have fA := fine_ways n16 M1.inb M1.few
      have fO := fine_ords n1 n16 M1.inb M1.few
      refine ⟨_, _, (hWy.same s4).dp, hE.dp, fA.shaped (by decide), fA.shaped (by decide), false, by rw [eqv_LL, decide_eq_true rfl] <;> rfl, iteF ?_⟩
      have s24 := s3.trans s4
      have M4 := M3.same s4
      refine ⟨_, rfl, _, rfl, _, rfl, n, m, es, rfl, M4.at_, n1, n16, M1.inb, M1.nd, M1.few, fun H5 o2 os s5 _ _ _ hO => ?_⟩
      refine ⟨_, _, ((hAr.same s24).same s5).dp, hO.dp, fO.shaped (by decide), fO.shaped (by decide), false, by rw [eqv_LL, decide_eq_true rfl] <;> rfl, iteF ?_⟩
      have s15 := s2.trans (s24.trans s5)
      have b5 : SameBut (· = d) H H5 := b1.trans (Same.but s15)
      have dr5 : Drw H5 d k1 := dr1.keep fun o e => s15 _ _ e
      have M5 := M1.same s15
      have V5 := V1.same s15
      clear hE hWy hAr A3 hO dr1 dr
      -- third
      refine ⟨_, rfl, _, rfl, d, m, k1, es, rfl, dr5, by omega, M5.at_, M1.few, fun H6 t3 es3 k3 b6 nt3 ht3 pm3 hnb dr6 hk3 => ?_⟩
      have M6 := M5.butd dr5 b6
      have V6 := V5.butd dr5 b6
      have T6 := logOf ht3 (pm3.trans pm1)
      have ho3 : ordF n es = ordF n es3 := ords_of_nbrs (by omega) M1.inb T6.inb fun c => (hnb c).symm
      have he3 : endsF n es3 = endsF n es := (ords_ends (by omega) M1.inb M1.nd T6.inb T6.nd ho3).symm
      have hkd : kindB n es es3 = true := decide_eq_true ho3
      have fT : Fine 2 600 (dW es3) := fine_web n16 T6.inb (by have := T6.few; omega)
      refine ⟨_, rfl, t3, _, rfl, ht3.at.dp, rOk fT, ?_⟩
      refine ⟨_, rfl, _, rfl, _, rfl, n, m, t3, es, es3, rfl, n1, n16, M6, T6, fun H7 s7 => ⟨true, congrArg V.bl hkd, iteF ?_⟩⟩
      have T7 := T6.same s7
      have M7 := M6.same s7
      refine ⟨_, rfl, t3, _, rfl, T7.at_.at.dp, rOk fT, _, rfl, rfl, false, str_ne, iteF ?_⟩
      refine ⟨_, rfl, _, rfl, n, t3, es3, rfl, T7.at_, n1, n16, T6.inb, T6.nd, T6.few, fun H8 e1 s8 _ h1 => ?_⟩
      refine ⟨_, rfl, _, rfl, n, m, es, rfl, (M7.same s8).at_, n1, n16, M1.inb, M1.nd, M1.few, fun H9 e2 s9 _ h2 => ?_⟩
      refine ⟨_, _, dp_L (sqL_of (s9 _ _ h1)), dp_L (sqL_of h2), (fine_ends' n1 n16 T6.inb).shaped (by decide), (fine_ends' n1 n16 M1.inb).shaped (by decide), false, by rw [eqv_L, decide_eq_true he3] <;> rfl, iteF ?_⟩
      have s69 := s7.trans (s8.trans s9)
      have b9 : SameBut (· = d) H H9 := (b5.trans b6).trans (Same.but s69)
      have M9 := M6.same s69
      have V9 := V6.same s69
      have dr9 : Drw H9 d k3 := dr6.keep fun o e => s69 _ _ e
      clear h1 h2 dr6 dr5 T7
      -- second
      refine ⟨_, rfl, _, rfl, d, a, k3, web, rfl, dr9, by omega, V9, hl, small, fun H10 m2 es2 k4 b10 nm2 hm2 pm2 dr10 hk4 => ?_⟩
      have M10 := M9.butd dr9 b10
      have T2 := logOf hm2 pm2
      refine ⟨_, rfl, _, rfl, _, rfl, n, m, m2, es, es2, rfl, n1, n16, M10, T2, fun H11 s11 => ⟨true, rfl, iteF ?_⟩⟩
      have M11 := M10.same s11
      obtain ⟨ms, hms, hPm⟩ := M11.at_
      refine ⟨_, rfl, _, rfl, _, rfl, 1, rfl, _, rfl, m, _, rfl, sqL_of hms, fun sl nsl => ?_⟩
      have u1 := same_upd (o := .lst (cutV (ms.map V.ref) none (some (-1)))) nsl
      have hsl : WebL (upd H11 sl (.lst (cutV (ms.map V.ref) none (some (-1))))) sl (es.take (es.length - 1)) := ⟨ms.take (ms.length - 1), by
        rw [upd_same, cut_last, ← List.map_take, List.length_map], by
        rw [← hPm.length]
        exact (hPm.take _).keep fun t xs e => u1 _ _ e⟩
      have S12 := M1.take (es.length - 1) hsl
      have M12 := M11.same u1
      refine ⟨n, m, sl, es, es.take (es.length - 1), rfl, n1, n16, M12, S12, fun H13 s13 => ⟨true, rfl, iteF ?_⟩⟩
      have s1013 := s11.trans (u1.trans s13)
      have b13 : SameBut (· = d) H H13 := (b9.trans b10).trans (Same.but s1013)
      have M13 := M10.same s1013
      have dr13 : Drw H13 d k4 := dr10.keep fun o e => s1013 _ _ e
      clear hsl S12 M12 M11 hms hPm dr10 dr9
      -- apart
      refine ⟨_, rfl, _, rfl, _, rfl, d, n, 9, k4, rfl, dr13, by omega, n1, n16, by decide, by decide, fun H14 tp wa n' ts' ws k5 b14 ntp nwa etp ewa hPw dr14 hk5 n1' n16' hlw hAw hIw => ?_⟩
      have small' : ∀ e ∈ ws, e.1.natAbs < 10 ^ 12 ∧ e.2.natAbs < 10 ^ 12 := fun e he => by
        have := hIw e he
        omega
      refine ⟨tp, _, 1, .ref wa, rfl, rfl, sqT_of etp, atI_nat (j := 1) rfl, ?_⟩
      refine ⟨d, wa, k5, ws, rfl, dr14, by omega, ⟨ts', ewa, hPw⟩, hlw, small', fun H15 ap fs k6 b15 nap hap pm4 dr15 hk6 => ?_⟩
      have M15 := (M13.butd dr13 b14).butd dr14 b15
      have b1315 : SameBut (· = d) H H15 := (b13.trans b14).trans b15
      have F15 : LogAt H15 n ap fs := ⟨hap, fun e he => by
        have := hIw e (pm4.mem_iff.mp he)
        omega, pm4.nodup_iff.mpr (asc_nodup hAw), by rw [pm4.length_eq]; exact hlw⟩
      clear dr14 dr13 b14 b15 b13 b9 hPw ewa etp M13
      -- fits
      obtain ⟨qs, hqs, hPq⟩ := hap
      refine ⟨_, rfl, ap, rfl, ⟨_, sqL_of hqs⟩, fun G nG => ?_⟩
      refine lc_list (K := K) (a := ap) (xs := qs.map V.ref) (fun i H' => Same H15 H' ∧ H' G = some (.lst ((qs.take i).map V.ref))) ⟨same_upd nG, upd_same⟩ (fun i H' _ ⟨s2, _⟩ => sqL_of (s2 _ _ hqs)) ?_ ?_
      · rintro i x H16 hx ⟨s16, hG⟩
        have hi : i < 64 := by
          have z := (List.getElem?_eq_some_iff.mp hx).1
          rw [List.length_map, hPq.length] at z
          have := F15.few
          omega
        rw [List.getElem?_map] at hx
        obtain ⟨t, ht, rfl⟩ := Option.map_eq_some_iff.mp hx
        obtain ⟨e, he, hte⟩ := hPq.get ht
        have hle := F15.inb e (List.mem_of_getElem? he)
        refine ⟨rfl, _, rfl, t, _, 1, .int e.2, rfl, rfl, sqT_of (s16 _ _ hte), atI_nat (j := 1) rfl, _, rfl, _, _, rfl, rfl, true, qT (by omega), iteT ?_⟩
        refine ⟨_, rfl, _, hG, ?_, Same.mut s16 nG, ?_⟩
        · rw [List.length_map, List.length_take]
          exact small1000 (by omega)
        · rw [upd_same, List.take_add_one, ht, List.map_append] <;> rfl
      · rintro H16 ⟨s16, hG⟩
        rw [List.length_map, List.take_length] at hG
        have M16 := M15.same s16
        have F16 : LogAt H16 n G fs := ⟨⟨qs, hG, hPq.keep fun t xs e => s16 _ _ e⟩, F15.inb, F15.nd, F15.few⟩
        refine ⟨_, rfl, _, rfl, _, rfl, n, m, G, es, fs, rfl, n1, n16, M16, F16, fun H17 s17 => ⟨true, rfl, iteF ?_⟩⟩
        refine ⟨_, rfl, _, rfl, _, rfl, n, G, G, fs, fs, rfl, n1, n16, F16.same s17, F16.same s17, fun H18 s18 => ⟨true, rfl, iteF ?_⟩⟩
        have s1518 := s16.trans (s17.trans s18)
        refine ⟨_, rfl, m, _, rfl, (M15.same s1518).at_.at.dp, rOk fW, _, rfl, rfl, ?_⟩
        show Q (V.bl (decide (V.str (dW es).shown = V.str (dW es).shown))) H18
        rw [str_eq]
        exact q H18 k6 (b1315.trans (Same.but s1518)) (dr15.keep fun o e => s1518 _ _ e) (by omega)
end
end Un

set_option maxRecDepth 100000
set_option maxHeartbeats 8000000
namespace Un
open PySem PySem.Spec PyProof.Rows L2
theorem kinds_ok : kindB 3 [(1, 2), (2, 3)] [(2, 3), (1, 2)] = false ∧ kindB 4 [(1, 2), (3, 4)] [(3, 4), (1, 2)] = true := by
  unfold kindB
  decide +kernel
theorem logs_ok : (Inb 3 [(1, 2), (2, 3)] ∧ Inb 3 [(2, 3), (1, 2)]) ∧ Inb 4 [(1, 2), (3, 4)] ∧ Inb 4 [(3, 4), (1, 2)] := by
  unfold Inb
  decide +kernel
section
variable {P : Program} {w : World} {K : PySem.W.Frag} {mg : Str → Option Value} {base : Heap}
structure LawCals (P : Program) (w : World) (K : PySem.W.Frag) (mg : Str → Option Value) (base : Heap) : Prop where
  dr : C8.Cal P w K mg base 1 "_law_draws" spDraws []
  wb : C8.Cal P w K mg base 2 "_law_web" spWeb []
  rt : CalG P w K mg base 7 "_law_right" spRight
  kc : C8.Cal P w K mg base 5 "are_one_kind" spKind []
def spLaw (K : PySem.W.Frag) : Sp := fun vs H Q _ => ∃ (a : Addr) (ns : List Int), vs = [.ref a] ∧ SqL K H a (ns.map V.int) ∧ ns.length ≤ 63 ∧ ∀ H', Q (.bl true) H'
theorem ok_law {f : Addr} {fd : FuncData} (F : Fun K "law" "law" s_law f fd) (T : Txt mg) (C : LawCals P w K mg base) : FnG P w K mg base 8 f fd ["_law_script"] (spLaw K) := by
  refine fnG_ok F sc_law (fun vs H Q E h => ?_) (fun cdv A outer s H vs Q hg hr h => ?_)
  · obtain ⟨a, ns, rfl, _⟩ := h
    rfl
  · obtain ⟨a, ns, rfl, hS, hl, q⟩ := h
    refine ⟨_, (pss_cons (ps_for PassesOwn.never rfl (pi_list (pe_lc (own := [("_law_cell", 5)]) rfl sc_law.nd (pi_list (pe_op op_cat (pe_slice sl_list (pv 0) po_none (po_some pe_int)) (pe_lst (pa_cons pe_int pa_nil)))) (blkOk_by (by kernel_rfl)) (fun _ _ _ _ _ => (pg_name (i := 5) sc_law.nd rfl (by first | exact Or.inl rfl | exact Or.inr rfl))) (fun _ _ _ _ _ => pts_nil) (fun _ _ _ _ _ => (C8.pe_c C.dr hr (by decide) (by rfl) (pa_cons (pv 5) pa_nil))))) (pg_name (i := 1) sc_law.nd rfl (by first | exact Or.inl rfl | exact Or.inr rfl)) (pss_one (ps_for PassesOwn.never rfl (pi_range1 (by rfl) T.n_range (pa_cons pe_int pa_nil)) (pg_name (i := 2) sc_law.nd rfl (by first | exact Or.inl rfl | exact Or.inr rfl)) (pss_cons (ps_asg (C8.pe_c C.wb hr (by decide) (by rfl) (pa_cons (pv 1) (pa_cons pe_int (pa_cons pe_int pa_nil)))) (pg_tup rfl (pgs_cons (pg_name (i := 3) sc_law.nd rfl (by first | exact Or.inl rfl | exact Or.inr rfl)) (pgs_cons (pg_name (i := 4) sc_law.nd rfl (by first | exact Or.inl rfl | exact Or.inr rfl)) pgs_nil))))
          (pss_one (ps_if (pt_not (pt_val (pe_cG hg C.rt hr (by decide) (by rfl) (pa_cons (pv 1) (pa_cons (pv 3) (pa_cons (pv 4) pa_nil)))))) (pss_one (ps_ret pe_bl)) pss_nil))))))
      (pss_cons (ps_if (pt_val (C8.pe_c C.kc hr (by decide) (by rfl) (pa_cons pe_int (pa_cons (pe_lst (pa_cons (pe_tup (pa_cons pe_int (pa_cons pe_int pa_nil))) (pa_cons (pe_tup (pa_cons pe_int (pa_cons pe_int pa_nil))) pa_nil))) (pa_cons (pe_lst (pa_cons (pe_tup (pa_cons pe_int (pa_cons pe_int pa_nil))) (pa_cons (pe_tup (pa_cons pe_int (pa_cons pe_int pa_nil))) pa_nil))) pa_nil))))) (pss_one (ps_ret pe_bl)) pss_nil)
      (pss_one (ps_ret (C8.pe_c C.kc hr (by decide) (by rfl) (pa_cons pe_int (pa_cons (pe_lst (pa_cons (pe_tup (pa_cons pe_int (pa_cons pe_int pa_nil))) (pa_cons (pe_tup (pa_cons pe_int (pa_cons pe_int pa_nil))) pa_nil))) (pa_cons (pe_lst (pa_cons (pe_tup (pa_cons pe_int (pa_cons pe_int pa_nil))) (pa_cons (pe_tup (pa_cons pe_int (pa_cons pe_int pa_nil))) pa_nil))) pa_nil)))))))), ?_⟩
    -- the list of the draws
    refine ⟨_, rfl, 6, rfl, a, _, rfl, hS, fun c nc => ?_⟩
    have s1 := same_upd (o := .lst (cutV (ns.map V.int) none (some 6))) nc
    refine ⟨(by show 1 ≤ sizeLine; decide), fun z nz => ?_⟩
    have s2 := same_upd (o := .lst [.int 0]) nz
    have hcl : (cutV (ns.map V.int) none (some 6)).length ≤ 63 := by
      refine Nat.le_trans (cutV_length _ _ _) ?_
      rw [List.length_map]
      exact hl
    have hci : ∀ x ∈ cutV (ns.map V.int) none (some 6) ++ [V.int 0], ∃ i, x = V.int i := by
      intro x hx
      rcases List.mem_append.mp hx with hx | hx
      · rw [show (some (6 : Int)) = some ((6 : Nat) : Int) from rfl, cut_to] at hx
        obtain ⟨i, _, rfl⟩ := List.mem_map.mp (List.mem_of_mem_take hx)
        exact ⟨i, rfl⟩
      · exact ⟨0, List.mem_singleton.mp hx⟩
    refine ⟨c, z, _, _, rfl, rfl, s2 _ _ upd_same, upd_same, ?_, fun l nl => ?_⟩
    · exact Nat.le_trans (Nat.add_le_add hcl (Nat.le_refl 1)) (by decide)
    have hl3 : (upd (upd (upd H c (.lst (cutV (ns.map V.int) none (some 6)))) z (.lst [.int 0])) l (.lst (cutV (ns.map V.int) none (some 6) ++ [V.int 0]))) l = some (.lst (cutV (ns.map V.int) none (some 6) ++ [V.int 0])) := upd_same
    have hlen : (cutV (ns.map V.int) none (some 6) ++ [V.int 0]).length ≤ 64 := by
      rw [List.length_append]
      exact Nat.succ_le_succ hcl
    generalize cutV (ns.map V.int) none (some 6) ++ [V.int 0] = cells at hci hlen hl3 ⊢
    generalize upd (upd (upd H c (.lst (cutV (ns.map V.int) none (some 6)))) z (.lst [.int 0])) l (.lst cells) = H0 at hl3 ⊢
    refine ⟨l, rfl, ⟨_, sqL_of hl3⟩, fun D nD => ?_⟩
    refine lc_list (K := K) (a := l) (xs := cells) (fun i H' => ∃ ds : List Addr, Same H0 H' ∧ H' D = some (.lst (ds.map V.ref)) ∧ ds.Nodup ∧ D ∉ ds ∧ ds.length ≤ i ∧ (∀ d ∈ ds, Drw H' d 0))
      ⟨[], same_upd nD, upd_same, List.nodup_nil, List.not_mem_nil, Nat.zero_le _, fun d hd => (List.not_mem_nil hd).elim⟩ (fun i H' _ ⟨_, s3, _⟩ => sqL_of (s3 _ _ hl3)) ?_ ?_
    · rintro i x H1 hx ⟨ds, s3, hD, nd, nDd, hdl, hdr⟩
      have hil : i < 64 := Nat.lt_of_lt_of_le (List.getElem?_eq_some_iff.mp hx).1 hlen
      obtain ⟨v, rfl⟩ := hci x (List.mem_of_getElem? hx)
      refine ⟨rfl, yes (iteT ?_)⟩
      refine ⟨_, rfl, v, rfl, fun H2 d s4 nd1 dr => ?_⟩
      have dD : d ≠ D := fun e => by
        rw [e, hD] at nd1
        cases nd1
      have dn : d ∉ ds := fun m => (hdr d m).is (H' := H1) nd1
      have keep : ∀ {d' : Addr} {k : Nat} {o : HO}, d' ≠ D → Drw H2 d' k → Drw (upd H2 D o) d' k := fun n h => h.keep fun o e => by
        rw [upd_ne n]
        exact e
      refine ⟨_, s4 _ _ hD, by rw [List.length_map]; exact small1000 (by omega), ds ++ [d], Same.mut (s3.trans s4) nD, ?_, ?_, ?_, ?_, ?_⟩
      · rw [upd_same, map_snoc]
      · exact List.nodup_append.mpr ⟨nd, by simp, fun a ha b hb => by
          rw [List.mem_singleton.mp hb]
          exact fun e => dn (e ▸ ha)⟩
      · intro m
        rcases List.mem_append.mp m with m | m
        · exact nDd m
        · exact dD (List.mem_singleton.mp m).symm
      · rw [List.length_append]
        exact Nat.succ_le_succ hdl
      · intro d' hd'
        rcases List.mem_append.mp hd' with m | m
        · exact keep (fun e => nDd (e ▸ m)) ((hdr d' m).keep fun o e => s4 _ _ e)
        · rw [List.mem_singleton.mp m]
          exact keep dD dr
    · rintro H1 ⟨ds, s3, hD, nd, nDd, hdl, hdr⟩
      refine ⟨D, rfl, ⟨_, sqL_of hD⟩, ?_⟩
      refine for_list (K := K) (a := D) (xs := ds.map V.ref) (fun i σ H' => ∃ v1 v2 v3 v4 : Option V, σ = [some (.ref a), v1, v2, v3, v4, none] ∧ SameBut (· ∈ ds) H1 H' ∧ ∀ (j : Nat) (d : Addr), i ≤ j → ds[j]? = some d → Drw H' d 0)
        ⟨none, none, none, none, rfl, SameBut.refl _ _, fun j d _ e => hdr d (List.mem_of_getElem? e)⟩ (fun i σ H' _ ⟨_, _, _, _, _, b, _⟩ => sqL_of (b _ _ nDd hD)) ?_ ?_
      · rintro i x σ H2 hx ⟨v1, v2, v3, v4, rfl, b2, hj⟩
        rw [List.getElem?_map] at hx
        obtain ⟨d, hd, rfl⟩ := Option.map_eq_some_iff.mp hx
        have md : d ∈ ds := List.mem_of_getElem? hd
        refine ⟨3, rfl, by decide, by decide, ?_⟩
        refine for_range (lo := 0) (n := 3) (fun t σ H' => ∃ v2 v3 v4 : Option V, σ = [some (.ref a), some (.ref d), v2, v3, v4, none] ∧ SameBut (· = d) H2 H' ∧ ∃ k, Drw H' d k ∧ k ≤ 650 * t)
          ⟨v2, v3, v4, rfl, SameBut.refl _ _, 0, hj i d (Nat.le_refl _) hd, Nat.zero_le _⟩ ?_ ?_
        · rintro t σ H3 ht ⟨v2, v3, v4, rfl, b3, k, dr, hk⟩
          refine ⟨_, rfl, d, 16, 9, k, rfl, dr, by omega, by decide, by decide, by decide, by decide, fun H4 tp wa n ts es k' b4 nt na et ea hP dr' hk' n1 n16 hel hA hI => ?_⟩
          refine ⟨tp, _, rfl, sqT_of et, rfl, _, _, rfl, _, _, rfl, rfl, ?_⟩
          refine ⟨_, rfl, _, rfl, _, rfl, d, wa, n, k', es, rfl, dr', by omega, ⟨ts, ea, hP⟩, n1, n16, hA, hI, hel, fun H5 k'' b5 dr'' hk'' => ⟨true, rfl, iteF ?_⟩⟩
          exact ⟨_, _, _, rfl, (b3.trans b4).trans b5, k'', dr'', by omega⟩
        · rintro σ H3 ⟨v2, v3, v4, rfl, b3, k, dr, hk⟩
          refine ⟨_, _, _, _, rfl, b2.trans fun b o n e => b3 b o (fun z => n (z ▸ md)) e, fun j d' hij e => ?_⟩
          have dne : d' ≠ d := fun z => by
            have h1 := (List.getElem?_inj (i := j) (j := i) (List.getElem?_eq_some_iff.mp e).1 nd).mp (by rw [e, hd, z])
            omega
          exact (hj j d' (by omega) e).keep fun o e => b3 _ _ dne e
      · rintro σ H2 ⟨v1, v2, v3, v4, rfl, b2, _⟩
        obtain ⟨c1, c2⟩ := kinds_ok
        obtain ⟨⟨i1, i2⟩, i3, i4⟩ := logs_ok
        refine ⟨(by show 2 ≤ sizeLine; decide), fun a1 ga1 => ?_⟩
        have ua1 := same_upd (o := .tup [.int 1, .int 2]) ga1
        have ka1 : (upd H2 a1 (.tup [.int 1, .int 2])) a1 = some (.tup [.int 1, .int 2]) := upd_same
        generalize upd H2 a1 (.tup [.int 1, .int 2]) = G1 at ua1 ka1 ⊢
        refine ⟨(by show 2 ≤ sizeLine; decide), fun a2 ga2 => ?_⟩
        have ua2 := same_upd (o := .tup [.int 2, .int 3]) ga2
        have ka2 : (upd G1 a2 (.tup [.int 2, .int 3])) a2 = some (.tup [.int 2, .int 3]) := upd_same
        generalize upd G1 a2 (.tup [.int 2, .int 3]) = G2 at ua2 ka2 ⊢
        refine ⟨(by show 2 ≤ sizeLine; decide), fun A gA => ?_⟩
        have uA := same_upd (o := .lst [.ref a1, .ref a2]) gA
        have wA : WebL (upd G2 A (.lst [.ref a1, .ref a2])) A [(1, 2), (2, 3)] := ⟨[a1, a2], upd_same, .cons (uA _ _ (ua2 _ _ ka1)) (.cons (uA _ _ ka2) .nil)⟩
        generalize upd G2 A (.lst [.ref a1, .ref a2]) = G3 at uA wA ⊢
        refine ⟨(by show 2 ≤ sizeLine; decide), fun b1 gb1 => ?_⟩
        have ub1 := same_upd (o := .tup [.int 2, .int 3]) gb1
        have kb1 : (upd G3 b1 (.tup [.int 2, .int 3])) b1 = some (.tup [.int 2, .int 3]) := upd_same
        generalize upd G3 b1 (.tup [.int 2, .int 3]) = G4 at ub1 kb1 ⊢
        refine ⟨(by show 2 ≤ sizeLine; decide), fun b2 gb2 => ?_⟩
        have ub2 := same_upd (o := .tup [.int 1, .int 2]) gb2
        have kb2 : (upd G4 b2 (.tup [.int 1, .int 2])) b2 = some (.tup [.int 1, .int 2]) := upd_same
        generalize upd G4 b2 (.tup [.int 1, .int 2]) = G5 at ub2 kb2 ⊢
        refine ⟨(by show 2 ≤ sizeLine; decide), fun B gB => ?_⟩
        have uB := same_upd (o := .lst [.ref b1, .ref b2]) gB
        have wB : WebL (upd G5 B (.lst [.ref b1, .ref b2])) B [(2, 3), (1, 2)] := ⟨[b1, b2], upd_same, .cons (uB _ _ (ub2 _ _ kb1)) (.cons (uB _ _ kb2) .nil)⟩
        generalize upd G5 B (.lst [.ref b1, .ref b2]) = G6 at uB wB ⊢
        refine ⟨3, A, B, [(1, 2), (2, 3)], [(2, 3), (1, 2)], rfl, by decide, by decide, ⟨wA.same (ub1.trans (ub2.trans uB)), i1, by decide, by decide⟩, ⟨wB, i2, by decide, by decide⟩, fun G7 s7 => ⟨false, congrArg V.bl c1, iteF ?_⟩⟩
        refine ⟨(by show 2 ≤ sizeLine; decide), fun x1 gx1 => ?_⟩
        have ux1 := same_upd (o := .tup [.int 1, .int 2]) gx1
        have kx1 : (upd G7 x1 (.tup [.int 1, .int 2])) x1 = some (.tup [.int 1, .int 2]) := upd_same
        generalize upd G7 x1 (.tup [.int 1, .int 2]) = G8 at ux1 kx1 ⊢
        refine ⟨(by show 2 ≤ sizeLine; decide), fun x2 gx2 => ?_⟩
        have ux2 := same_upd (o := .tup [.int 3, .int 4]) gx2
        have kx2 : (upd G8 x2 (.tup [.int 3, .int 4])) x2 = some (.tup [.int 3, .int 4]) := upd_same
        generalize upd G8 x2 (.tup [.int 3, .int 4]) = G9 at ux2 kx2 ⊢
        refine ⟨(by show 2 ≤ sizeLine; decide), fun X gX => ?_⟩
        have uX := same_upd (o := .lst [.ref x1, .ref x2]) gX
        have wX : WebL (upd G9 X (.lst [.ref x1, .ref x2])) X [(1, 2), (3, 4)] := ⟨[x1, x2], upd_same, .cons (uX _ _ (ux2 _ _ kx1)) (.cons (uX _ _ kx2) .nil)⟩
        generalize upd G9 X (.lst [.ref x1, .ref x2]) = G10 at uX wX ⊢
        refine ⟨(by show 2 ≤ sizeLine; decide), fun y1 gy1 => ?_⟩
        have uy1 := same_upd (o := .tup [.int 3, .int 4]) gy1
        have ky1 : (upd G10 y1 (.tup [.int 3, .int 4])) y1 = some (.tup [.int 3, .int 4]) := upd_same
        generalize upd G10 y1 (.tup [.int 3, .int 4]) = G11 at uy1 ky1 ⊢
        refine ⟨(by show 2 ≤ sizeLine; decide), fun y2 gy2 => ?_⟩
        have uy2 := same_upd (o := .tup [.int 1, .int 2]) gy2
        have ky2 : (upd G11 y2 (.tup [.int 1, .int 2])) y2 = some (.tup [.int 1, .int 2]) := upd_same
        generalize upd G11 y2 (.tup [.int 1, .int 2]) = G12 at uy2 ky2 ⊢
        refine ⟨(by show 2 ≤ sizeLine; decide), fun Y gY => ?_⟩
        have uY := same_upd (o := .lst [.ref y1, .ref y2]) gY
        have wY : WebL (upd G12 Y (.lst [.ref y1, .ref y2])) Y [(3, 4), (1, 2)] := ⟨[y1, y2], upd_same, .cons (uY _ _ (uy2 _ _ ky1)) (.cons (uY _ _ ky2) .nil)⟩
        generalize upd G12 Y (.lst [.ref y1, .ref y2]) = G13 at uY wY ⊢
        refine ⟨4, X, Y, [(1, 2), (3, 4)], [(3, 4), (1, 2)], rfl, by decide, by decide, ⟨wX.same (uy1.trans (uy2.trans uY)), i3, by decide, by decide⟩, ⟨wY, i4, by decide, by decide⟩, fun G14 s14 => ?_⟩
        rw [c2]
        exact q _
end
end Un

set_option maxRecDepth 100000
/-! ### what the top has written; the theorem -/
namespace Un
open PySem PySem.Spec PyProof.Rows L2
theorem all_mk {l : PySem.W.OpenLaw} {w : World} {K : PySem.W.Frag} {h : Heap} {mg : Str → Option Value} {fa : Addr} (X : K.In h) (G : h.Ns mainGlobals mg) (hfa : mg "law" = some (.ref fa))
    (d_is_whole : DefIn K "is_whole" s_is_whole)
    (d_is_cell : DefIn K "is_cell" s_is_cell)
    (d_is_exchange : DefIn K "is_exchange" s_is_exchange)
    (d_check_cells : DefInD K "check_cells" s_check_cells [.int 1, .int 16])
    (d_check_log : DefIn K "check_log" s_check_log)
    (d_ends : DefIn K "ends" s_ends)
    (d_ways : DefIn K "ways" s_ways)
    (d_orders : DefIn K "orders" s_orders)
    (d_are_one_kind : DefIn K "are_one_kind" s_are_one_kind)
    (d_ways_of : DefIn K "ways_of" s_ways_of)
    (d_ends_of : DefIn K "ends_of" s_ends_of)
    (d_orders_of : DefIn K "orders_of" s_orders_of)
    (d_l_draws : DefIn K "_law_draws" s_l_draws)
    (d_l_next : DefIn K "_law_next" s_l_next)
    (d_l_web : DefIn K "_law_web" s_l_web)
    (d_l_log : DefIn K "_law_log" s_l_log)
    (d_l_orders : DefIn K "_law_orders" s_l_orders)
    (d_l_walk : DefIn K "_law_walk" s_l_walk)
    (d_l_shaken : DefIn K "_law_shaken" s_l_shaken)
    (d_l_two_right : DefIn K "_law_two_right" s_l_two_right)
    (d_l_right : DefIn K "_law_right" s_l_right)
    (d_law : DefIn K "law" s_law)
    (z_int : PySem.W.nsIn K mainGlobals "int" = some none)
    (z_bool : PySem.W.nsIn K mainGlobals "bool" = some none)
    (z_tuple : PySem.W.nsIn K mainGlobals "tuple" = some none)
    (z_list : PySem.W.nsIn K mainGlobals "list" = some none)
    (z_isinstance : PySem.W.nsIn K mainGlobals "isinstance" = some none)
    (z_len : PySem.W.nsIn K mainGlobals "len" = some none)
    (z_enumerate : PySem.W.nsIn K mainGlobals "enumerate" = some none)
    (z_range : PySem.W.nsIn K mainGlobals "range" = some none)
    (z_min : PySem.W.nsIn K mainGlobals "min" = some none)
    (z_max : PySem.W.nsIn K mainGlobals "max" = some none)
    (z_sorted : PySem.W.nsIn K mainGlobals "sorted" = some none)
    (z_set : PySem.W.nsIn K mainGlobals "set" = some none)
    (z_repr : PySem.W.nsIn K mainGlobals "repr" = some none)
    {t_MOST_CELLS : Tok} (z_MOST_CELLS : PySem.W.nsIn K mainGlobals "MOST_CELLS" = some (some (.int 16 t_MOST_CELLS)))
    : ∃ fd : FuncData, (∀ (s : Shared) (v : Value), BindsTo s fd ⟨[v], []⟩ [("_law_script", v)]) ∧ ∀ base : Heap, K.In base → base.Ns mainGlobals mg → FnG l.prog w K mg base 8 fa fd ["_law_script"] (spLaw K) := by
  obtain ⟨f_is_whole, fd_is_whole, F_is_whole, m_is_whole⟩ := d_is_whole.fn X G
  obtain ⟨f_is_cell, fd_is_cell, F_is_cell, m_is_cell⟩ := d_is_cell.fn X G
  obtain ⟨f_is_exchange, fd_is_exchange, F_is_exchange, m_is_exchange⟩ := d_is_exchange.fn X G
  obtain ⟨f_check_cells, fd_check_cells, F_check_cells, m_check_cells⟩ := d_check_cells.fn (fun h => nomatch h) X G
  obtain ⟨f_check_log, fd_check_log, F_check_log, m_check_log⟩ := d_check_log.fn X G
  obtain ⟨f_ends, fd_ends, F_ends, m_ends⟩ := d_ends.fn X G
  obtain ⟨f_ways, fd_ways, F_ways, m_ways⟩ := d_ways.fn X G
  obtain ⟨f_orders, fd_orders, F_orders, m_orders⟩ := d_orders.fn X G
  obtain ⟨f_are_one_kind, fd_are_one_kind, F_are_one_kind, m_are_one_kind⟩ := d_are_one_kind.fn X G
  obtain ⟨f_ways_of, fd_ways_of, F_ways_of, m_ways_of⟩ := d_ways_of.fn X G
  obtain ⟨f_ends_of, fd_ends_of, F_ends_of, m_ends_of⟩ := d_ends_of.fn X G
  obtain ⟨f_orders_of, fd_orders_of, F_orders_of, m_orders_of⟩ := d_orders_of.fn X G
  obtain ⟨f_l_draws, fd_l_draws, F_l_draws, m_l_draws⟩ := d_l_draws.fn X G
  obtain ⟨f_l_next, fd_l_next, F_l_next, m_l_next⟩ := d_l_next.fn X G
  obtain ⟨f_l_web, fd_l_web, F_l_web, m_l_web⟩ := d_l_web.fn X G
  obtain ⟨f_l_log, fd_l_log, F_l_log, m_l_log⟩ := d_l_log.fn X G
  obtain ⟨f_l_orders, fd_l_orders, F_l_orders, m_l_orders⟩ := d_l_orders.fn X G
  obtain ⟨f_l_walk, fd_l_walk, F_l_walk, m_l_walk⟩ := d_l_walk.fn X G
  obtain ⟨f_l_shaken, fd_l_shaken, F_l_shaken, m_l_shaken⟩ := d_l_shaken.fn X G
  obtain ⟨f_l_two_right, fd_l_two_right, F_l_two_right, m_l_two_right⟩ := d_l_two_right.fn X G
  obtain ⟨f_l_right, fd_l_right, F_l_right, m_l_right⟩ := d_l_right.fn X G
  obtain ⟨f_law, fd_law, F_law, m_law⟩ := d_law.fn X G
  have b_is_whole := F_is_whole.binds (ps := ["thing"]) fun _ _ _ _ _ _ us hl => match us, hl with | [_], _ => rfl
  have b_is_cell := F_is_cell.binds (ps := ["cells", "thing"]) fun _ _ _ _ _ _ us hl => match us, hl with | [_, _], _ => rfl
  have b_is_exchange := F_is_exchange.binds (ps := ["cells", "thing"]) fun _ _ _ _ _ _ us hl => match us, hl with | [_, _], _ => rfl
  have b_check_log := F_check_log.binds (ps := ["cells", "log"]) fun _ _ _ _ _ _ us hl => match us, hl with | [_, _], _ => rfl
  have b_ends := F_ends.binds (ps := ["cells", "log"]) fun _ _ _ _ _ _ us hl => match us, hl with | [_, _], _ => rfl
  have b_ways := F_ways.binds (ps := ["cells", "log"]) fun _ _ _ _ _ _ us hl => match us, hl with | [_, _], _ => rfl
  have b_orders := F_orders.binds (ps := ["cells", "log"]) fun _ _ _ _ _ _ us hl => match us, hl with | [_, _], _ => rfl
  have b_are_one_kind := F_are_one_kind.binds (ps := ["cells", "log", "other"]) fun _ _ _ _ _ _ us hl => match us, hl with | [_, _, _], _ => rfl
  have b_ways_of := F_ways_of.binds (ps := ["cells", "log"]) fun _ _ _ _ _ _ us hl => match us, hl with | [_, _], _ => rfl
  have b_ends_of := F_ends_of.binds (ps := ["cells", "log"]) fun _ _ _ _ _ _ us hl => match us, hl with | [_, _], _ => rfl
  have b_orders_of := F_orders_of.binds (ps := ["cells", "log"]) fun _ _ _ _ _ _ us hl => match us, hl with | [_, _], _ => rfl
  have b_l_draws := F_l_draws.binds (ps := ["_law_cell"]) fun _ _ _ _ _ _ us hl => match us, hl with | [_], _ => rfl
  have b_l_next := F_l_next.binds (ps := ["_law_draws_here"]) fun _ _ _ _ _ _ us hl => match us, hl with | [_], _ => rfl
  have b_l_web := F_l_web.binds (ps := ["_law_draws_here", "_law_most", "_law_many"]) fun _ _ _ _ _ _ us hl => match us, hl with | [_, _, _], _ => rfl
  have b_l_log := F_l_log.binds (ps := ["_law_draws_here", "_law_some"]) fun _ _ _ _ _ _ us hl => match us, hl with | [_, _], _ => rfl
  have b_l_orders := F_l_orders.binds (ps := ["_law_size", "_law_made"]) fun _ _ _ _ _ _ us hl => match us, hl with | [_, _], _ => rfl
  have b_l_walk := F_l_walk.binds (ps := ["_law_around", "_law_k"]) fun _ _ _ _ _ _ us hl => match us, hl with | [_, _], _ => rfl
  have b_l_shaken := F_l_shaken.binds (ps := ["_law_draws_here", "_law_made"]) fun _ _ _ _ _ _ us hl => match us, hl with | [_, _], _ => rfl
  have b_l_two_right := F_l_two_right.binds (ps := ["_law_size", "_law_made", "_law_second"]) fun _ _ _ _ _ _ us hl => match us, hl with | [_, _, _], _ => rfl
  have b_l_right := F_l_right.binds (ps := ["_law_draws_here", "_law_size", "_law_some"]) fun _ _ _ _ _ _ us hl => match us, hl with | [_, _, _], _ => rfl
  have e := hfa.symm.trans m_law
  cases e
  have T : Txt mg := ⟨PySem.W.mg_none_of X G z_int, PySem.W.mg_none_of X G z_bool, PySem.W.mg_none_of X G z_tuple, PySem.W.mg_none_of X G z_list, PySem.W.mg_none_of X G z_isinstance, PySem.W.mg_none_of X G z_len, PySem.W.mg_none_of X G z_enumerate, PySem.W.mg_none_of X G z_range, PySem.W.mg_none_of X G z_min, PySem.W.mg_none_of X G z_max, PySem.W.mg_none_of X G z_sorted, PySem.W.mg_none_of X G z_set, PySem.W.mg_none_of X G z_repr, ⟨_, PySem.W.mg_of X G z_MOST_CELLS, ⟨_, rfl⟩⟩⟩
  have bL : ∀ (s : Shared) (v : Value), BindsTo s fd_law ⟨[v], []⟩ [("_law_script", v)] := by
    obtain ⟨oc, od, kV, doc, pm, an, cdv, ct, osl, efd, lk, hcd⟩ := F_law.ex
    subst efd
    exact fun s v => .of_eq rfl
  refine ⟨fd_law, bL, fun base _ _ => ?_⟩
  have c_whole := cal_of F_is_whole m_is_whole b_is_whole (ok_is_whole (P := l.prog) (w := w) (base := base) F_is_whole T)
  have c_cell := cal_of F_is_cell m_is_cell b_is_cell (ok_is_cell F_is_cell c_whole)
  have c_exch := cal_of F_is_exchange m_is_exchange b_is_exchange (ok_is_exchange F_is_exchange T c_cell)
  have c_cc := cal_ofD F_check_cells m_check_cells (binds_check_cells F_check_cells) (ok_check_cells F_check_cells c_whole)
  have c_cl := cal_of F_check_log m_check_log b_check_log (ok_check_log F_check_log T c_exch)
  have c_wo := cal_of F_ways_of m_ways_of b_ways_of (ok_ways_of (k := 0) (P := l.prog) (w := w) (base := base) F_ways_of T)
  have c_oo := cal_of F_orders_of m_orders_of b_orders_of (ok_orders_of (k := 0) (P := l.prog) (w := w) (base := base) F_orders_of T)
  have c_eo := cal_of F_ends_of m_ends_of b_ends_of (ok_ends_of F_ends_of c_wo)
  have c_w := cal_of F_ways m_ways b_ways (ok_ways F_ways ⟨c_cc, c_cl⟩ c_wo)
  have c_o := cal_of F_orders m_orders b_orders (ok_orders F_orders ⟨c_cc, c_cl⟩ c_oo)
  have c_e := cal_of F_ends m_ends b_ends (ok_ends F_ends ⟨c_cc, c_cl⟩ c_eo)
  have g_k := ok_kind F_are_one_kind ⟨c_cc, c_cl⟩ c_oo
  have c_k := cal_of F_are_one_kind m_are_one_kind b_are_one_kind g_k
  have k_k := kcal_of F_are_one_kind m_are_one_kind (kbn_of (ps := ["cells", "log", "other"]) (ks := ["other", "log", "cells"]) F_are_one_kind gRev3 gRev3_rel fun _ _ _ _ _ _ ws hl => match ws, hl with | [_, _, _], _ => rfl) g_k
  have c_dr := cal_of F_l_draws m_l_draws b_l_draws (ok_draws (P := l.prog) (w := w) (base := base) F_l_draws T)
  have c_nx := cal_of F_l_next m_l_next b_l_next (ok_next (P := l.prog) (w := w) (base := base) F_l_next T)
  have c_wb := cal_of F_l_web m_l_web b_l_web (ok_web F_l_web T c_nx)
  have c_lg := cal_of F_l_log m_l_log b_l_log (ok_l_log F_l_log T c_nx)
  have c_lo := cal_of F_l_orders m_l_orders b_l_orders (ok_l_orders (k := 0) (P := l.prog) (w := w) (base := base) F_l_orders T)
  have c_wk := cal_of F_l_walk m_l_walk b_l_walk (ok_walk (j := 0) (P := l.prog) (w := w) (base := base) F_l_walk T)
  have c_sh := cal_of F_l_shaken m_l_shaken b_l_shaken (ok_shaken F_l_shaken T c_nx)
  have c_tw := calG_of F_l_two_right m_l_two_right b_l_two_right (ok_two F_l_two_right T ⟨c_lo, c_k, k_k, c_e⟩)
  have c_rt := calG_of F_l_right m_l_right b_l_right (ok_l_right F_l_right T ⟨c_lg, c_wb, c_lo, c_wk, c_sh, c_tw, c_k, c_w, c_o, c_e⟩)
  exact ok_law F_law T ⟨c_dr, c_wb, c_rt, c_k⟩
end Un
open PySem PySem.W PyProof.Rows in
set_option maxRecDepth 100000 in
set_option maxHeartbeats 0 in
theorem PySem.Challenge.cw_unnoted_k11_whole_orders_tell_the_ends_holds : PySem.Challenge.rw_unnoted_k11_whole_orders_tell_the_ends.Holds := by
  w_on; o_law; k_head; (case hw => w_witness2)
  k_fill
  refine Un.walk_ofG (l := PySem.Challenge.rw_unnoted_k11_whole_orders_tell_the_ends) (n := 63) (k := 8) (x := "_law_script") (sp := Un.spLaw) rfl (by decide) rfl ⟨rfl, by decide, by decide⟩ (fun w h Y => PySem.W.kIn_of Y) ?F (fun K H a ns hl hS => ⟨a, ns, rfl, hS, hl, fun _ => rfl⟩)
  case F =>
    intro w mg fa h KX G hmg
    refine' Un.all_mk KX G hmg ?d_is_whole ?d_is_cell ?d_is_exchange ?d_check_cells ?d_check_log ?d_ends ?d_ways ?d_orders ?d_are_one_kind ?d_ways_of ?d_ends_of ?d_orders_of ?d_l_draws ?d_l_next ?d_l_web ?d_l_log ?d_l_orders ?d_l_walk ?d_l_shaken ?d_l_two_right ?d_l_right ?d_law ?z_int ?z_bool ?z_tuple ?z_list ?z_isinstance ?z_len ?z_enumerate ?z_range ?z_min ?z_max ?z_sorted ?z_set ?z_repr ?z_MOST_CELLS
    (case d_is_whole => (refine' Un.defIn_mk ?a ?l ?c ?k; (case a => k_is); (case l => k_is); (case c => k_is); (case k => k_is)))
    (case d_is_cell => (refine' Un.defIn_mk ?a ?l ?c ?k; (case a => k_is); (case l => k_is); (case c => k_is); (case k => k_is)))
    (case d_is_exchange => (refine' Un.defIn_mk ?a ?l ?c ?k; (case a => k_is); (case l => k_is); (case c => k_is); (case k => k_is)))
    (case d_check_cells => (refine' Un.defInD2_mk ?a ?l ?c ?k ?t; (case a => k_is); (case l => k_is); (case c => k_is); (case k => k_is); (case t => k_is)))
    (case d_check_log => (refine' Un.defIn_mk ?a ?l ?c ?k; (case a => k_is); (case l => k_is); (case c => k_is); (case k => k_is)))
    (case d_ends => (refine' Un.defIn_mk ?a ?l ?c ?k; (case a => k_is); (case l => k_is); (case c => k_is); (case k => k_is)))
    (case d_ways => (refine' Un.defIn_mk ?a ?l ?c ?k; (case a => k_is); (case l => k_is); (case c => k_is); (case k => k_is)))
    (case d_orders => (refine' Un.defIn_mk ?a ?l ?c ?k; (case a => k_is); (case l => k_is); (case c => k_is); (case k => k_is)))
    (case d_are_one_kind => (refine' Un.defIn_mk ?a ?l ?c ?k; (case a => k_is); (case l => k_is); (case c => k_is); (case k => k_is)))
    (case d_ways_of => (refine' Un.defIn_mk ?a ?l ?c ?k; (case a => k_is); (case l => k_is); (case c => k_is); (case k => k_is)))
    (case d_ends_of => (refine' Un.defIn_mk ?a ?l ?c ?k; (case a => k_is); (case l => k_is); (case c => k_is); (case k => k_is)))
    (case d_orders_of => (refine' Un.defIn_mk ?a ?l ?c ?k; (case a => k_is); (case l => k_is); (case c => k_is); (case k => k_is)))
    (case d_l_draws => (refine' Un.defIn_mk ?a ?l ?c ?k; (case a => k_is); (case l => k_is); (case c => k_is); (case k => k_is)))
    (case d_l_next => (refine' Un.defIn_mk ?a ?l ?c ?k; (case a => k_is); (case l => k_is); (case c => k_is); (case k => k_is)))
    (case d_l_web => (refine' Un.defIn_mk ?a ?l ?c ?k; (case a => k_is); (case l => k_is); (case c => k_is); (case k => k_is)))
    (case d_l_log => (refine' Un.defIn_mk ?a ?l ?c ?k; (case a => k_is); (case l => k_is); (case c => k_is); (case k => k_is)))
    (case d_l_orders => (refine' Un.defIn_mk ?a ?l ?c ?k; (case a => k_is); (case l => k_is); (case c => k_is); (case k => k_is)))
    (case d_l_walk => (refine' Un.defIn_mk ?a ?l ?c ?k; (case a => k_is); (case l => k_is); (case c => k_is); (case k => k_is)))
    (case d_l_shaken => (refine' Un.defIn_mk ?a ?l ?c ?k; (case a => k_is); (case l => k_is); (case c => k_is); (case k => k_is)))
    (case d_l_two_right => (refine' Un.defIn_mk ?a ?l ?c ?k; (case a => k_is); (case l => k_is); (case c => k_is); (case k => k_is)))
    (case d_l_right => (refine' Un.defIn_mk ?a ?l ?c ?k; (case a => k_is); (case l => k_is); (case c => k_is); (case k => k_is)))
    (case d_law => (refine' Un.defIn_mk ?a ?l ?c ?k; (case a => k_is); (case l => k_is); (case c => k_is); (case k => k_is)))
    (case z_int => k_is)
    (case z_bool => k_is)
    (case z_tuple => k_is)
    (case z_list => k_is)
    (case z_isinstance => k_is)
    (case z_len => k_is)
    (case z_enumerate => k_is)
    (case z_range => k_is)
    (case z_min => k_is)
    (case z_max => k_is)
    (case z_sorted => k_is)
    (case z_set => k_is)
    (case z_repr => k_is)
    (case z_MOST_CELLS => k_is)
