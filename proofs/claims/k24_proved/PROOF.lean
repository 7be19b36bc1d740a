import PyProof.Rows.All
import Wide.All
import OpenK.AllK
import Wide.FinOn
import PyProof.EqAt
import PyProof.EqKinds
import PyProof.TupleCall
import KE.KLam
import HandS.ForMost
import HandS.Wide
import HandS.StrMore
import HandS.Replace
import HandS.FStr
import HandS.Exc
import HandS.ExcOwn
import HandS.TryMany
import HandS.WordsExc
import HandS.Small
import HandS.RaiseMore
import HandS.Deep
import HandS.DeepEq
import HandS.CallRecv
import HandS.Lambda
import HandS.EndBits
import HandS.EndTab
import HandS.HeadWalk
import HandS.Defaults
import HandS.Head0
import HandS.Head1
import HandS.Head2
import HandS.HeadHook1
import HandS.HeadHook2
import HandS.HeadHook3
import HandS.HeadHook4
import HandS.ReplaceLit
import HandS.Star
import HandS.Style
import HandS.IsInst
import HandS.TupAny
import HandS.TupMul
import PyProof.AutoSeq1
import KE.GoesMore
import KE.GoesEnum
import HandS.Zip
import PyProof.ListRange
import HandS.More
import HandS.RaiseFrom
import HandS.MapSum
import PyProof.CallType
import PyProof.RangeIter
import HandS.AnyAll
import HandS.Nested
import HandS.DictComp
import HandS.Walk
import HandS.Steps
import HandS.TupLe
import HandS.CallLocal
import HandS.SetBool
import HandS.Strs
import PySem.Challenge.RW_tablestack_k24_what_conditions_ask_of_ke
section
-- part Fw
set_option Elab.async false
set_option linter.all false
set_option maxRecDepth 100000
set_option maxHeartbeats 2000000
/-! Fw: words of our own over the hand layer: a def that may be called by its name, what is kept of a heap, dice. -/
namespace Fw
open PySem PySem.Spec PyProof.Rows L2

/-- a def of the module that may be called by its name x; it may raise -/
structure Cl (P : Program) (w : World) (K : PySem.W.Frag) (mg : Str → Option Value) (base : Heap) (k : Nat) (x : Str) (sp : Sp) : Prop where
  ex : ∃ (f : Addr) (fd : FuncData) (ps : List Str), FnOk P w K mg base (L2.CX P w) k f fd ps sp ∧ mg x = some (.ref f) ∧ PySem.W.keepIn K (.ref f) = true ∧ Binds K fd ps []
abbrev FnP (K : PySem.W.Frag) (mg : Str → Option Value) (x : Str) (st : Stmt) : Prop := ∃ (f : Addr) (fd : FuncData), FunD K x x (defArgs st) (defBody st) (defScope st) [] [] f fd ∧ mg x = some (.ref f)
section
variable {P : Program} {w : World} {K : PySem.W.Frag} {mg : Str → Option Value} {base : Heap} {x : Str} {st : Stmt}
theorem cl_mk {N ps : List Str} {k : Nat} {sp : Sp} (F : FnP K mg x st) (S : FnScope N ps (defScope st))
    (b : ∀ (kV doc pm : Value) (an : Option Addr) (cdv ct : Value) (us : List Value), us.length = ps.length → bindArgs (PySem.W.fnOf x x (defArgs st) (defBody st) (defScope st) .none kV doc pm an cdv ct) ⟨us, []⟩ = pure (ps.zip us))
    (len : ∀ vs H Q E, sp vs H Q E → vs.length = ps.length)
    (hbody : ∀ (f : Addr) (cdv : Value) (A : Around) (outer : List Env) (s : Shared) (H : Hp) (vs : List V) (Q : VK) (E : XK), Room k (A.deeper (envOfC x (defScope st) s.heap.objs.size f cdv)) → sp vs H Q E →
      ∃ t, PSs (cxOf (L2.CX P w) P w K mg base N x (defScope st) f cdv A outer s H E) (defBody st) t ∧ t { nx := fun _ H' => Q .non H', rt := Q } (start N vs) H) : Cl P w K mg base (k + 1) x sp := by
  obtain ⟨f, fd, F, m⟩ := F
  exact ⟨f, fd, ps, F.ok S len (hbody f), m, F.kp, F.bindsN b⟩
theorem Cl.mono {j k : Nat} {sp : Sp} (c : Cl P w K mg base j x sp) (h : j ≤ k) : Cl P w K mg base k x sp := by
  obtain ⟨f, fd, ps, F, m, kp, b⟩ := c.ex
  exact ⟨f, fd, ps, F.mono h, m, kp, b⟩
/-- a promise that says more -/
theorem Cl.imp {k : Nat} {sp sp' : Sp} (c : Cl P w K mg base k x sp) (h : ∀ vs H Q E, sp' vs H Q E → sp vs H Q E) : Cl P w K mg base k x sp' := by
  obtain ⟨f, fd, ps, F, m, kp, b⟩ := c.ex
  exact ⟨f, fd, ps, ⟨fun vs H Q E q => F.len vs H Q E (h _ _ _ _ q), fun A outer s H args us vs Q E hr e0 hb r q => F.run A outer s H args us vs Q E hr e0 hb r (h _ _ _ _ q)⟩, m, kp, b⟩
end
def tCl (sp : Sp) (E : XK) (t : TA) : TE := fun σ H Q => t σ H fun vs H1 => sp vs H1 Q E
section
variable {X : Cx} {k j : Nat} {C : Addr} {x m : Str} {sp : Sp} {E : XK} {p pos apos : Pos} {e o : Expr} {es : List Expr} {ta : TE} {t : TA}
theorem pe_cl (c : Cl X.prog X.w X.K X.mg X.base k x sp) (hr : Room j X.A) (hk : k ≤ j) (hg : Gl X x) (hx : Passes (L2.CX X.prog X.w) X E) (ha : PA X (e :: es) t)
    (hdb : (x == ("__debug__" : Str)) = false := by decide) (he : starEach (e :: es) X.env = (false, eval e X.env) :: starEach es X.env := by rfl) (hpl : (backTo pos (starEach es X.env)).any (·.1) = false := by rfl) :
    PE X (.Call (.Name x p) (e :: es) [] pos) (tCl sp E t) := by
  obtain ⟨f, fd, ps, F, hm, kp, b⟩ := c.ex
  refine ⟨fun pins s σ H Q I h => ?_⟩
  refine (pe_call F (hr.mono hk) hg hm kp b .nil hx ha hdb he hpl).run pins s σ H Q I ?_
  have q : t σ H fun vs H1 => sp vs H1 Q E := h
  show t σ H fun vs H1 => sp (vs ++ []) H1 Q E
  have e0 : (fun (vs : List V) (H1 : Hp) => sp (vs ++ []) H1 Q E) = fun vs H1 => sp vs H1 Q E := by
    funext vs H1
    rw [List.append_nil]
  rw [e0]
  exact q
/-- what leaves a def's own body -/
theorem passD {P : Program} {w : World} {K : PySem.W.Frag} {mg : Str → Option Value} {base : Heap} {N : List Str} {x : Str} {sc : Scope} {f : Addr} {cdv : Value} {A : Around} {outer : List Env} {s : Shared} {H : Hp} {E : XK} :
    Passes (L2.CX P w) (cxOf (L2.CX P w) P w K mg base N x sc f cdv A outer s H E) E := passes_call (takes_of rfl rfl rfl rfl) fun _ _ _ _ h => h
end

/-! ### texts as lists of signs -/
abbrev T (l : List Nat) : V := .str ⟨l.toArray⟩
theorem tl_mk (l : List Nat) : ((⟨l.toArray⟩ : Str).cps.toList) = l := by simp
theorem len_mk (l : List Nat) : (⟨l.toArray⟩ : Str).length = l.length := by simp [Str.length]

/-! ### heaps: all but one object is kept -/
def Kp (d : Addr) (H H' : Hp) : Prop := ∀ b o, b ≠ d → H b = some o → H' b = some o
theorem Kp.refl (d : Addr) (H : Hp) : Kp d H H := fun _ _ _ h => h
theorem Kp.trans {d : Addr} {H H1 H2 : Hp} (a : Kp d H H1) (b : Kp d H1 H2) : Kp d H H2 := fun c o n h => b c o n (a c o n h)
theorem Kp.at_ {d : Addr} {H : Hp} {o : HO} : Kp d H (upd H d o) := fun b u n h => by rw [upd_ne n]; exact h
theorem Kp.of {d : Addr} {H H' : Hp} (h : Same H H') : Kp d H H' := fun b o _ e => h b o e
theorem same_new {H : Hp} {p : Addr} (h : H p = none) (o : HO) : Same H (upd H p o) := fun b u q => by rw [upd_ne (ne_of_none q h)]; exact q
theorem Kp.new {d : Addr} {H : Hp} {p : Addr} {o : HO} (h : H p = none) : Kp d H (upd H p o) := Kp.of (same_new h o)
/-- three ints at d -/
def Dice (H : Hp) (d : Addr) : Prop := ∃ a b c : Int, H d = some (.lst [.int a, .int b, .int c])
theorem Dice.new {H : Hp} {d p : Addr} {o : HO} (h : Dice H d) (hp : H p = none) : Dice (upd H p o) d := by
  obtain ⟨a, b, c, e⟩ := h
  exact ⟨a, b, c, by rw [upd_ne (ne_of_none e hp)]; exact e⟩
/-! ### classes -/
/-- a class that may be made by its name x -/
structure Mc (P : Program) (w : World) (K : PySem.W.Frag) (mg : Str → Option Value) (base : Heap) (k : Nat) (x : Str) (C : Addr) (sp : Sp) : Prop where
  ex : ∃ (f : Addr) (fd : FuncData) (ps : List Str), Mk K C f ∧ FnOk P w K mg base (L2.CX P w) k f fd ps sp ∧ mg x = some (.ref C) ∧ Binds K fd ps []
/-- a method m of the class at C -/
structure Me (P : Program) (w : World) (K : PySem.W.Frag) (mg : Str → Option Value) (base : Heap) (k : Nat) (C : Addr) (m : Str) (sp : Sp) : Prop where
  ex : ∃ (f : Addr) (fd : FuncData) (ps : List Str), Cls K C ∧ Meth K C m f ∧ FnOk P w K mg base (L2.CX P w) k f fd ps sp ∧ Binds K fd ps []
/-- a method's text as it stands -/
abbrev FnM (K : PySem.W.Frag) (C : Addr) (m qual : Str) (st : Stmt) : Prop := ∃ (f : Addr) (fd : FuncData), FunD K m qual (defArgs st) (defBody st) (defScope st) [] [] f fd ∧ Meth K C m f
section
variable {P : Program} {w : World} {K : PySem.W.Frag} {mg : Str → Option Value} {base : Heap} {x m qual : Str} {st : Stmt} {C : Addr}
theorem fn_m {N ps : List Str} {k : Nat} {sp : Sp} {f : Addr} {fd : FuncData} (F : FunD K m qual (defArgs st) (defBody st) (defScope st) [] [] f fd) (S : FnScope N ps (defScope st))
    (len : ∀ vs H Q E, sp vs H Q E → vs.length = ps.length)
    (hbody : ∀ (f : Addr) (cdv : Value) (A : Around) (outer : List Env) (s : Shared) (H : Hp) (vs : List V) (Q : VK) (E : XK), Room k (A.deeper (envOfC qual (defScope st) s.heap.objs.size f cdv)) → sp vs H Q E →
      ∃ t, PSs (cxOf (L2.CX P w) P w K mg base N qual (defScope st) f cdv A outer s H E) (defBody st) t ∧ t { nx := fun _ H' => Q .non H', rt := Q } (start N vs) H) : FnOk P w K mg base (L2.CX P w) (k + 1) f fd ps sp := F.ok S len (hbody f)
theorem mc_mk {N ps : List Str} {k : Nat} {sp : Sp} (F : ∃ (f : Addr) (fd : FuncData), FunD K "__init__" qual (defArgs st) (defBody st) (defScope st) [] [] f fd ∧ Mk K C f) (hm : mg x = some (.ref C)) (S : FnScope N ps (defScope st))
    (b : ∀ (kV doc pm : Value) (an : Option Addr) (cdv ct : Value) (us : List Value), us.length = ps.length → bindArgs (PySem.W.fnOf "__init__" qual (defArgs st) (defBody st) (defScope st) .none kV doc pm an cdv ct) ⟨us, []⟩ = pure (ps.zip us))
    (len : ∀ vs H Q E, sp vs H Q E → vs.length = ps.length)
    (hbody : ∀ (f : Addr) (cdv : Value) (A : Around) (outer : List Env) (s : Shared) (H : Hp) (vs : List V) (Q : VK) (E : XK), Room k (A.deeper (envOfC qual (defScope st) s.heap.objs.size f cdv)) → sp vs H Q E →
      ∃ t, PSs (cxOf (L2.CX P w) P w K mg base N qual (defScope st) f cdv A outer s H E) (defBody st) t ∧ t { nx := fun _ H' => Q .non H', rt := Q } (start N vs) H) : Mc P w K mg base (k + 1) x C sp := by
  obtain ⟨f, fd, F, M⟩ := F
  exact ⟨f, fd, ps, M, fn_m F S len hbody, hm, F.bindsN b⟩
theorem me_mk {N ps : List Str} {k : Nat} {sp : Sp} (F : FnM K C m qual st) (c : Cls K C) (S : FnScope N ps (defScope st))
    (b : ∀ (kV doc pm : Value) (an : Option Addr) (cdv ct : Value) (us : List Value), us.length = ps.length → bindArgs (PySem.W.fnOf m qual (defArgs st) (defBody st) (defScope st) .none kV doc pm an cdv ct) ⟨us, []⟩ = pure (ps.zip us))
    (len : ∀ vs H Q E, sp vs H Q E → vs.length = ps.length)
    (hbody : ∀ (f : Addr) (cdv : Value) (A : Around) (outer : List Env) (s : Shared) (H : Hp) (vs : List V) (Q : VK) (E : XK), Room k (A.deeper (envOfC qual (defScope st) s.heap.objs.size f cdv)) → sp vs H Q E →
      ∃ t, PSs (cxOf (L2.CX P w) P w K mg base N qual (defScope st) f cdv A outer s H E) (defBody st) t ∧ t { nx := fun _ H' => Q .non H', rt := Q } (start N vs) H) : Me P w K mg base (k + 1) C m sp := by
  obtain ⟨f, fd, F, M⟩ := F
  exact ⟨f, fd, ps, c, M, fn_m F S len hbody, F.bindsN b⟩
end
def tMk (C : Addr) (sp : Sp) (E : XK) (t : TA) : TE := fun σ H Q => t σ H fun vs H1 => ∀ x dx, H1 x = none → H1 dx = none → dx ≠ x → sp (.ref x :: vs) (upd (upd H1 dx (.own x)) x (.ins C dx [])) (fun v H2 => v = .non ∧ Q (.ref x) H2) E
def tMe (C : Addr) (m : Str) (sp : Sp) (E : XK) (ta : TE) (t : TA) : TE := fun σ H Q => ta σ H fun x H1 => ∃ a dx fs, x = .ref a ∧ H1 a = some (.ins C dx fs) ∧ fs.lookup m = none ∧ t σ H1 fun vs H2 => sp (x :: vs) H2 Q E
section
variable {X : Cx} {k j : Nat} {C : Addr} {x m : Str} {sp : Sp} {E : XK} {p pos apos : Pos} {e o : Expr} {es : List Expr} {ta : TE} {t : TA}
theorem pe_mc (c : Mc X.prog X.w X.K X.mg X.base k x C sp) (hr : Room j X.A) (hk : k + 1 ≤ j) (hg : Gl X x) (hx : Passes (L2.CX X.prog X.w) X E) (ha : PA X (e :: es) t)
    (hdb : (x == ("__debug__" : Str)) = false := by decide) (he : starEach (e :: es) X.env = (false, eval e X.env) :: starEach es X.env := by rfl) (hpl : (backTo pos (starEach es X.env)).any (·.1) = false := by rfl) :
    PE X (.Call (.Name x p) (e :: es) [] pos) (tMk C sp E t) := by
  obtain ⟨f, fd, ps, M, F, hm, b⟩ := c.ex
  refine ⟨fun pins s σ H Q I h => ?_⟩
  refine (pe_make M F (hr.mono hk) hg hm b .nil hx ha hdb he hpl).run pins s σ H Q I ?_
  have q : t σ H fun vs H1 => ∀ x dx, H1 x = none → H1 dx = none → dx ≠ x → sp (.ref x :: vs) (upd (upd H1 dx (.own x)) x (.ins C dx [])) (fun v H2 => v = .non ∧ Q (.ref x) H2) E := h
  have e0 : (fun (vs : List V) (H1 : Hp) => ∀ x dx, H1 x = none → H1 dx = none → dx ≠ x → sp (.ref x :: (vs ++ [])) (upd (upd H1 dx (.own x)) x (.ins C dx [])) (fun v H2 => v = .non ∧ Q (.ref x) H2) E) =
      fun vs H1 => ∀ x dx, H1 x = none → H1 dx = none → dx ≠ x → sp (.ref x :: vs) (upd (upd H1 dx (.own x)) x (.ins C dx [])) (fun v H2 => v = .non ∧ Q (.ref x) H2) E := by
    funext vs H1
    rw [List.append_nil]
  show t σ H fun vs H1 => ∀ x dx, H1 x = none → H1 dx = none → dx ≠ x → sp (.ref x :: (vs ++ [])) (upd (upd H1 dx (.own x)) x (.ins C dx [])) (fun v H2 => v = .non ∧ Q (.ref x) H2) E
  rw [e0]
  exact q
theorem pe_me {pl : Sem Bool} (c : Me X.prog X.w X.K X.mg X.base k C m sp) (hr : Room j X.A) (hk : k ≤ j) (hx : Passes (L2.CX X.prog X.w) X E) (he : PE X o ta) (ha : PA X (e :: es) t)
    (hst : starEach (e :: es) X.env = (false, eval e X.env) :: starEach es X.env := by rfl) (hpl : (backTo pos (starEach es X.env)).any (·.1) = false := by rfl)
    (ht : eval (.Call (.Attribute o m apos) (e :: es) [] pos) X.env = (do
      let ov ← eval o X.env
      standAt apos.atName
      let (f, first) ← holding [ov] (getMethod ov m pl)
      callWith pos f first (backTo pos (starEach (e :: es) X.env)) (backToKw pos (keywordEach [] X.env))) := by rfl) :
    PE X (.Call (.Attribute o m apos) (e :: es) [] pos) (tMe C m sp E ta t) := by
  obtain ⟨f, fd, ps, hc, hm, F, b⟩ := c.ex
  refine ⟨fun pins s σ H Q I h => ?_⟩
  refine (pe_meth (pl := pl) he hc hm F (hr.mono hk) b .nil hx ha hst hpl ht).run pins s σ H Q I ?_
  have e0 : (fun (x : V) (H1 : Hp) => ∃ a dx fs, x = .ref a ∧ H1 a = some (.ins C dx fs) ∧ fs.lookup m = none ∧ t σ H1 fun vs H2 => sp (x :: (vs ++ [])) H2 Q E) =
      fun x H1 => ∃ a dx fs, x = .ref a ∧ H1 a = some (.ins C dx fs) ∧ fs.lookup m = none ∧ t σ H1 fun vs H2 => sp (x :: vs) H2 Q E := by
    funext x H1
    simp only [List.append_nil]
  show ta σ H fun x H1 => ∃ a dx fs, x = .ref a ∧ H1 a = some (.ins C dx fs) ∧ fs.lookup m = none ∧ t σ H1 fun vs H2 => sp (x :: (vs ++ [])) H2 Q E
  rw [e0]
  exact h
theorem pe_me0 {pl : Sem Bool} (c : Me X.prog X.w X.K X.mg X.base k C m sp) (hr : Room j X.A) (hk : k ≤ j) (hx : Passes (L2.CX X.prog X.w) X E) (he : PE X o ta)
    (ht : eval (.Call (.Attribute o m apos) [] [] pos) X.env = (do
      let ov ← eval o X.env
      standAt apos.atName
      let (f, first) ← holding [ov] (getMethod ov m pl)
      callWith pos f first (backTo pos (starEach [] X.env)) (backToKw pos (keywordEach [] X.env))) := by rfl) :
    PE X (.Call (.Attribute o m apos) [] [] pos) (tMe C m sp E ta tNil) := by
  obtain ⟨f, fd, ps, hc, hm, F, b⟩ := c.ex
  exact pe_meth0 (pl := pl) he hc hm F (hr.mono hk) b .nil hx ht
end
end Fw
end

section
-- part Fs
set_option Elab.async false
set_option linter.all false
set_option maxRecDepth 100000
set_option maxHeartbeats 2000000
/-! Fs: readings, step by step -/
namespace Fw
open PySem PySem.Spec PyProof.Rows L2
section
variable {K : PySem.W.Frag} {σ : L2.St} {H : Hp} {Q : VK} {ta tb te tc : TE} {t u : TS} {D : Ends} {v x y : V} {i : Nat} {r : R2} {tt tu : TT} {QT : Bool → Hp → Prop} {tr : TA} {QA : List V → Hp → Prop} {E : XK} {sp : Sp}
theorem w_seq (h : t { D with nx := u D } σ H) : tSeq t u D σ H := h
theorem w_asg {g : TG} (h : te σ H fun x H1 => g x σ H1 D.nx) : tAsg te g D σ H := h
theorem w_ret (h : te σ H D.rt) : tRet te D σ H := h
theorem w_drop (h : te σ H fun _ H1 => D.nx σ H1) : tDrop te D σ H := h
theorem w_next (h : D.nx σ H) : tNext D σ H := h
theorem w_ifs (h : tt σ H fun b H1 => if b = true then t D σ H1 else u D σ H1) : tIfS tt t u D σ H := h
theorem w_var (h : σ[i]? = some (some v)) (q : Q v H) : tVar i σ H Q := ⟨v, h, q⟩
theorem w_c (q : Q v H) : tC v σ H Q := q
theorem w_op (h : ta σ H fun x H1 => tb σ H1 fun y H2 => r x y H2 Q) : tOp r ta tb σ H Q := h
theorem w_un {r : V → Hp → VK → Prop} (h : ta σ H fun x H1 => r x H1 Q) : tUn r ta σ H Q := h
theorem w_cons (h : ta σ H fun x H1 => tr σ H1 fun xs H2 => QA (x :: xs) H2) : tCons ta tr σ H QA := h
theorem w_nil (q : QA [] H) : tNil σ H QA := q
theorem w_cl (h : tr σ H fun vs H1 => sp vs H1 Q E) : tCl sp E tr σ H Q := h
theorem w_cb {r : List V → Hp → VK → Prop} (h : tr σ H fun vs H1 => r vs H1 Q) : tCB r tr σ H Q := h
theorem w_gname {Q : L2.St → Hp → Prop} (h : Q (σ.set i (some v)) H) : gName i v σ H Q := h
theorem w_gsub {Q : L2.St → Hp → Prop} {s : TSet} (h : ta σ H fun o H1 => tb σ H1 fun i H2 => s o i v H2 fun H3 => Q σ H3) : gSub ta tb s v σ H Q := h
theorem w_test (h : te σ H fun x H1 => ∃ k, x = .bl k ∧ QT k H1) : tTest te σ H QT := h
theorem w_B (h : te σ H fun x H1 => ∃ k, x = .bl k ∧ QT k H1) : tB te σ H QT := h
theorem w_bl {b : Bool} {P : Bool → Prop} (h : P b) : ∃ k, V.bl b = V.bl k ∧ P k := ⟨b, rfl, h⟩
theorem w_and (h : tt σ H fun b H1 => if b = true then tu σ H1 QT else QT false H1) : tAnd tt tu σ H QT := h
theorem w_or (h : tt σ H fun b H1 => if b = true then QT true H1 else tu σ H1 QT) : tOr tt tu σ H QT := h
theorem w_not (h : tt σ H fun b H1 => QT (!b) H1) : tNot tt σ H QT := h
theorem w_if (h : tt σ H fun b H1 => if b = true then ta σ H1 Q else tb σ H1 Q) : tIf tt ta tb σ H Q := h
theorem w_I0 {g : Int → Int → V} {i j : Int} (q : Q (g i j) H) : rI0 g (.int i) (.int j) H Q := ⟨i, j, rfl, rfl, q⟩
theorem w_I {C : Int → Int → Prop} {g : Int → Int → V} {i j : Int} (c : C i j) (q : Q (g i j) H) : rI C g (.int i) (.int j) H Q := ⟨i, j, rfl, rfl, c, q⟩
theorem w_eq (s : scal x y = true) (q : Q (.bl (decide (x = y))) H) : rEq x y H Q := ⟨s, q⟩
theorem w_ne (s : scal x y = true) (q : Q (.bl (!decide (x = y))) H) : rNe x y H Q := ⟨s, q⟩
theorem w_ixL {p : Addr} {xs : List V} {i : Int} (h : H p = some (.lst xs)) (a : atI xs i = some v) (q : Q v H) : rIxL K (.ref p) (.int i) H Q := ⟨p, xs, i, v, rfl, rfl, .inl (.inl h), a, q⟩
theorem w_setL {p : Addr} {xs : List V} {k : Int} {j : Nat} {Q : Hp → Prop} (h : H p = some (.lst xs)) (a : ixN xs.length k = some j) (q : Q (upd H p (.lst (xs.set j v)))) : rSetL (.ref p) (.int k) v H Q := ⟨p, xs, k, j, rfl, rfl, h, a, q⟩
theorem w_lst (h : tr σ H fun xs H1 => xs.length ≤ sizeLine ∧ ∀ p, H1 p = none → Q (.ref p) (upd H1 p (.lst xs))) : tLst tr σ H Q := h
theorem w_tup (h : tr σ H fun xs H1 => xs.length ≤ sizeLine ∧ ∀ p, H1 p = none → Q (.ref p) (upd H1 p (.tup xs))) : tTup tr σ H Q := h
theorem w_iteD {p : Prop} [Decidable p] {A B : Prop} (h1 : p → A) (h2 : ¬ p → B) : if decide p = true then A else B := by
  by_cases c : p
  · rw [if_pos (decide_eq_true c)]
    exact h1 c
  · rw [if_neg (by simp [c])]
    exact h2 c
theorem w_ite {b : Bool} {A B : Prop} (h1 : b = true → A) (h2 : b = false → B) : if b = true then A else B := by
  cases b with
  | true => rw [if_pos rfl]; exact h1 rfl
  | false => rw [if_neg Bool.false_ne_true]; exact h2 rfl
theorem w_iteT {A B : Prop} (h : A) : if true = true then A else B := by rw [if_pos rfl]; exact h
theorem w_iteF {A B : Prop} (h : B) : if false = true then A else B := by rw [if_neg Bool.false_ne_true]; exact h
theorem w_fld {f : Str} (h : ta σ H fun x H1 => ∃ a C dx fs v, x = .ref a ∧ H1 a = some (.ins C dx fs) ∧ Cls K C ∧ NoAttr K C f ∧ fs.lookup f = some v ∧ Q v H1) : tFld K ta f σ H Q := h
theorem w_mk {C : Addr} (h : tr σ H fun vs H1 => ∀ x dx, H1 x = none → H1 dx = none → dx ≠ x → sp (.ref x :: vs) (upd (upd H1 dx (.own x)) x (.ins C dx [])) (fun v H2 => v = .non ∧ Q (.ref x) H2) E) : tMk C sp E tr σ H Q := h
theorem w_me {C : Addr} {m : Str} (h : ta σ H fun x H1 => ∃ a dx fs, x = .ref a ∧ H1 a = some (.ins C dx fs) ∧ fs.lookup m = none ∧ tr σ H1 fun vs H2 => sp (x :: vs) H2 Q E) : tMe C m sp E ta tr σ H Q := h
theorem w_sfld {tv : TE} {f : Str} (h : tv σ H fun y H1 => ta σ H1 fun x H2 => ∃ a C dx fs, x = .ref a ∧ H2 a = some (.ins C dx fs) ∧ Cls K C ∧ NoAttr K C f ∧ fs.length < 1000 ∧ D.nx σ (upd H2 a (.ins C dx (putF f y fs)))) : sFld K ta tv f D σ H := h
theorem w_bm {T : String} {r : V → List V → Hp → VK → Prop} (h : ta σ H fun x H1 => tyV K T x H1 ∧ tr σ H1 fun xs H2 => r x xs H2 Q) : tBM K T r ta tr σ H Q := h
theorem w_bm0 {T : String} {r : V → List V → Hp → VK → Prop} (h : ta σ H fun x H1 => tyV K T x H1 ∧ r x [] H1 Q) : tBM0 K T r ta σ H Q := h
theorem w_sl {r : V → Option Int → Option Int → Hp → VK → Prop} {tl th : TO} (h : te σ H fun x H1 => tl σ H1 fun l H2 => th σ H2 fun u H3 => r x l u H3 Q) : tSl r te tl th σ H Q := h
theorem w_part {Q : Option Int → Hp → Prop} (h : te σ H fun x H1 => ∃ i, x = .int i ∧ Q (some i) H1) : tPart te σ H Q := h
theorem w_nopart {Q : Option Int → Hp → Prop} (h : Q none H) : tNoPart σ H Q := h
theorem w_partI {n : Int} {P : Int → Prop} (h : P n) : ∃ i, V.int n = V.int i ∧ P i := ⟨n, rfl, h⟩
theorem w_aug {ti : TIp} (h : σ[i]? = some (some x)) (q : te σ H fun y H1 => ti x y H1 fun z H2 => D.nx (σ.set i (some z)) H2) : tAug i te ti D σ H := ⟨x, h, q⟩
theorem w_ipI {f : Int → Int → Int} {i j : Int} (q : Q (.int (f i j)) H) : ipI f (.int i) (.int j) H Q := ⟨i, j, rfl, rfl, q⟩
end
theorem hu64 {k : Nat} {A : Around} (r : Room k A) : A.units + 64 < cLine := by have := r.un; omega
theorem hu1 {k : Nat} {A : Around} (r : Room k A) : A.units < cLine := by have := r.un; omega
section
variable {K : PySem.W.Frag} {σ : L2.St} {H : Hp} {Q : VK} {ta tb tc : TE} {r r' : R2} {v x y : V}
theorem w_chain (h : ta σ H fun x H1 => tb σ H1 fun y H2 => r x y H2 fun z H3 => ∃ k, z = .bl k ∧ (if k = true then tc σ H3 fun w' H4 => r' y w' H4 Q else Q (.bl false) H3)) : tChain r r' ta tb tc σ H Q := h
theorem w_x1i {c : Int} {P : Int → Prop} (h : P c) : ∃ i, [V.int c] = [V.int i] ∧ P i := ⟨c, rfl, h⟩
theorem w_x1b {c : Bool} {P : Bool → Prop} (h : P c) : ∃ i, [V.bl c] = [V.bl i] ∧ P i := ⟨c, rfl, h⟩
theorem w_x1s {c : Str} {P : Str → Prop} (h : P c) : ∃ i, [V.str c] = [V.str i] ∧ P i := ⟨c, rfl, h⟩
theorem w_int1i {c : Int} {P : Int → Prop} {R : Prop} (h : P c) : (∃ i, [V.int c] = [V.int i] ∧ P i) ∨ R := .inl ⟨c, rfl, h⟩
theorem w_int1b {c : Bool} {P : Bool → Prop} {R : Prop} (h : P c) : R ∨ ∃ i, [V.bl c] = [V.bl i] ∧ P i := .inr ⟨c, rfl, h⟩
theorem w_mod {i j : Int} (c : 0 < j) (q : Q (.int (i % j)) H) : rI (fun _ j => 0 < j) (fun i j => V.int (i % j)) (.int i) (.int j) H Q := ⟨i, j, rfl, rfl, c, q⟩
theorem w_mul {i j : Int} (c : CMul i j) (q : Q (.int (i * j)) H) : rI CMul (fun i j => V.int (i * j)) (.int i) (.int j) H Q := ⟨i, j, rfl, rfl, c, q⟩
theorem w_fdivW {i j : Int} (c : 0 < j) (c2 : j < 2 ^ 60) (q : Q (.int (i / j)) H) : rI CDivW (fun i j => V.int (i / j)) (.int i) (.int j) H Q :=
  ⟨i, j, rfl, rfl, wide_div (b := 60) c (by omega) (by decide) (by decide), q⟩
theorem w_pow {i j : Int} (c : CPow i j) (q : Q (.int (i ^ j.toNat)) H) : rI CPow (fun i j => V.int (i ^ j.toNat)) (.int i) (.int j) H Q := ⟨i, j, rfl, rfl, c, q⟩
end
section
variable {K : PySem.W.Frag} {σ : L2.St} {H : Hp} {Q : VK} {v x y : V}
theorem w_setLu {p : Addr} {xs : List V} {k : Int} {j : Nat} {Q : Hp → Prop} (a : ixN xs.length k = some j) (q : Q (upd H p (.lst (xs.set j v)))) : rSetL (.ref p) (.int k) v (upd H p (.lst xs)) Q := ⟨p, xs, k, j, rfl, rfl, upd_same, a, by rw [upd_upd]; exact q⟩
theorem w_new {n : Nat} {B : Prop} (hz : Nat.ble n 1000 = true) (h : B) : n ≤ sizeLine ∧ B := ⟨Nat.le_trans (Nat.le_of_ble_eq_true hz) (by decide), h⟩
theorem mod_b {a m : Int} (h : 0 < m) : 0 ≤ a % m ∧ a % m < m := ⟨Int.emod_nonneg a (by omega), Int.emod_lt_of_pos a h⟩
end
section
variable {K : PySem.W.Frag} {σ : L2.St} {H : Hp} {Q : VK} {tl te : TE} {ta : TA} {j : Nat} {vs : List Nat} {tt : TT} {g : TG} {wi : TI}
theorem w_lc (h : wi σ H fun J H1 => ∀ D, H1 D = none → ∃ W : Nat → Nat → Hp → Prop, (∃ m, W 0 m (upd H1 D (.lst []))) ∧ ∀ i m H, W i m H →
  (J.stop i H ∧ Q (.ref D) H) ∨ (J.go i H ∧ ∃ Nx : Hp → Prop, (∀ H', Nx H' → ∃ m', m' < m ∧ W (i + 1) m' H') ∧ ∀ x H', J.yld i H x H' → g x (wipe σ vs) H' fun σ2 H2 => wipe σ2 vs = wipe σ vs ∧ tt σ2 H2 fun b H3 =>
    if b = true then te σ2 H3 fun y H4 => ∃ acc, H4 D = some (.lst acc) ∧ acc.length < sizeLine ∧ Nx (upd H4 D (.lst (acc ++ [y]))) else Nx H3)) : tLc wi g tt te vs σ H Q := h
theorem w_iL {R : It → Hp → Prop} (h : tl σ H fun x H1 => ∃ a, x = .ref a ∧ (∃ xs, SqL K H1 a xs) ∧ R (Itl K a) H1) : iList K tl σ H R := h
theorem w_iT {R : It → Hp → Prop} (h : tl σ H fun x H1 => ∃ a, x = .ref a ∧ (∃ xs, SqT K H1 a xs) ∧ R (Itt K a) H1) : iTup K tl σ H R := h
theorem w_iR1 {R : It → Hp → Prop} (h : ta σ H fun vs H1 => ∃ j : Int, vs = [.int j] ∧ -(2 ^ 62) ≤ j ∧ j < 2 ^ 62 ∧ R (Itr 0 j.toNat) H1) : iRng1 ta σ H R := h
theorem w_iR2 {R : It → Hp → Prop} (h : ta σ H fun vs H1 => ∃ i j : Int, vs = [.int i, .int j] ∧ (-(2 ^ 62) ≤ i ∧ i < 2 ^ 62 ∧ -(2 ^ 62) ≤ j ∧ j < 2 ^ 62) ∧ R (Itr i (j - i).toNat) H1) : iRng2 ta σ H R := h
theorem w_yes {Q : Bool → Hp → Prop} (h : Q true H) : tYes σ H Q := h
/-- a comprehension over a list: the turn's word Pv -/
theorem w_lcL {p : Addr} {xs : List V} (hS : SqL K H p xs) (h : ∀ D, H D = none → ∃ Pv : Nat → Hp → Prop, Pv 0 (upd H D (.lst [])) ∧ (∀ i H2, i ≤ xs.length → Pv i H2 → SqL K H2 p xs) ∧
      (∀ i x H2, xs[i]? = some x → Pv i H2 → g x (wipe σ vs) H2 fun σ2 H2 => wipe σ2 vs = wipe σ vs ∧ tt σ2 H2 fun b H3 =>
        if b = true then te σ2 H3 fun y H4 => ∃ acc, H4 D = some (.lst acc) ∧ acc.length < sizeLine ∧ Pv (i + 1) (upd H4 D (.lst (acc ++ [y]))) else Pv (i + 1) H3) ∧ (∀ H2, Pv xs.length H2 → Q (.ref D) H2)) :
    ∃ a, V.ref p = .ref a ∧ (∃ xs, SqL K H a xs) ∧ ∀ D, H D = none → ∃ W : Nat → Nat → Hp → Prop, (∃ m, W 0 m (upd H D (.lst []))) ∧ ∀ i m H, W i m H →
      ((Itl K a).stop i H ∧ Q (.ref D) H) ∨ ((Itl K a).go i H ∧ ∃ Nx : Hp → Prop, (∀ H', Nx H' → ∃ m', m' < m ∧ W (i + 1) m' H') ∧ ∀ x H', (Itl K a).yld i H x H' → g x (wipe σ vs) H' fun σ2 H2 => wipe σ2 vs = wipe σ vs ∧ tt σ2 H2 fun b H3 =>
        if b = true then te σ2 H3 fun y H4 => ∃ acc, H4 D = some (.lst acc) ∧ acc.length < sizeLine ∧ Nx (upd H4 D (.lst (acc ++ [y]))) else Nx H3) :=
  ⟨p, rfl, ⟨xs, hS⟩, fun D hD => by
    obtain ⟨Pv, h0, hl, hs, hd⟩ := h D hD
    exact lc_list Pv h0 hl hs hd⟩
/-- .. over range(n) -/
theorem w_lcR {n : Int} (hn : 0 ≤ n ∧ n < 2 ^ 62) (h : ∀ D, H D = none → ∃ Pv : Nat → Hp → Prop, Pv 0 (upd H D (.lst [])) ∧
      (∀ (i : Nat) H2, (i : Int) < n → Pv i H2 → g (.int (0 + (i : Int))) (wipe σ vs) H2 fun σ2 H2 => wipe σ2 vs = wipe σ vs ∧ tt σ2 H2 fun b H3 =>
        if b = true then te σ2 H3 fun y H4 => ∃ acc, H4 D = some (.lst acc) ∧ acc.length < sizeLine ∧ Pv (i + 1) (upd H4 D (.lst (acc ++ [y]))) else Pv (i + 1) H3) ∧ (∀ H2, Pv n.toNat H2 → Q (.ref D) H2)) :
    ∃ j : Int, [V.int n] = [.int j] ∧ -(2 ^ 62) ≤ j ∧ j < 2 ^ 62 ∧ ∀ D, H D = none → ∃ W : Nat → Nat → Hp → Prop, (∃ m, W 0 m (upd H D (.lst []))) ∧ ∀ i m H, W i m H →
      ((Itr 0 j.toNat).stop i H ∧ Q (.ref D) H) ∨ ((Itr 0 j.toNat).go i H ∧ ∃ Nx : Hp → Prop, (∀ H', Nx H' → ∃ m', m' < m ∧ W (i + 1) m' H') ∧ ∀ x H', (Itr 0 j.toNat).yld i H x H' → g x (wipe σ vs) H' fun σ2 H2 => wipe σ2 vs = wipe σ vs ∧ tt σ2 H2 fun b H3 =>
        if b = true then te σ2 H3 fun y H4 => ∃ acc, H4 D = some (.lst acc) ∧ acc.length < sizeLine ∧ Nx (upd H4 D (.lst (acc ++ [y]))) else Nx H3) :=
  ⟨n, rfl, by omega, hn.2, fun D hD => by
    obtain ⟨Pv, h0, hs, hd⟩ := h D hD
    exact lc_range Pv h0 (fun i H hi p => hs i H (by omega) p) hd⟩
theorem w_for {wi : TI} {g : TG} {tb : TS} {D : Ends} (h : wi σ H fun J H1 => ∃ W : Nat → Nat → L2.St → Hp → Prop, (∃ m, W 0 m σ H1) ∧ ∀ i m σ H, W i m σ H →
  (J.stop i H ∧ D.nx σ H) ∨ (J.go i H ∧ ∃ N : L2.St → Hp → Prop, (∀ σ' H', N σ' H' → ∃ m', m' < m ∧ W (i + 1) m' σ' H') ∧ ∀ x H', J.yld i H x H' → g x σ H' fun σ2 H2 => tb { D with nx := N, ct := N, bk := D.nx } σ2 H2)) : tFor wi g tb D σ H := h
theorem w_forL {g : TG} {tb : TS} {D : Ends} {p : Addr} {xs : List V} (hS : SqL K H p xs) (Pv : Nat → L2.St → Hp → Prop) (h0 : Pv 0 σ H) (hl : ∀ i σ H, i ≤ xs.length → Pv i σ H → SqL K H p xs)
    (hs : ∀ i x σ H, xs[i]? = some x → Pv i σ H → g x σ H fun σ2 H2 => tb { D with nx := Pv (i + 1), ct := Pv (i + 1), bk := D.nx } σ2 H2) (hd : ∀ σ H, Pv xs.length σ H → D.nx σ H) :
    ∃ a, V.ref p = .ref a ∧ (∃ xs, SqL K H a xs) ∧ ∃ W : Nat → Nat → L2.St → Hp → Prop, (∃ m, W 0 m σ H) ∧ ∀ i m σ H, W i m σ H →
      ((Itl K a).stop i H ∧ D.nx σ H) ∨ ((Itl K a).go i H ∧ ∃ N : L2.St → Hp → Prop, (∀ σ' H', N σ' H' → ∃ m', m' < m ∧ W (i + 1) m' σ' H') ∧ ∀ x H', (Itl K a).yld i H x H' → g x σ H' fun σ2 H2 => tb { D with nx := N, ct := N, bk := D.nx } σ2 H2) :=
  ⟨p, rfl, ⟨xs, hS⟩, for_list Pv h0 hl hs hd⟩
theorem w_forT {g : TG} {tb : TS} {D : Ends} {p : Addr} {xs : List V} (hS : SqT K H p xs) (Pv : Nat → L2.St → Hp → Prop) (h0 : Pv 0 σ H) (hl : ∀ i σ H, i ≤ xs.length → Pv i σ H → SqT K H p xs)
    (hs : ∀ i x σ H, xs[i]? = some x → Pv i σ H → g x σ H fun σ2 H2 => tb { D with nx := Pv (i + 1), ct := Pv (i + 1), bk := D.nx } σ2 H2) (hd : ∀ σ H, Pv xs.length σ H → D.nx σ H) :
    ∃ a, V.ref p = .ref a ∧ (∃ xs, SqT K H a xs) ∧ ∃ W : Nat → Nat → L2.St → Hp → Prop, (∃ m, W 0 m σ H) ∧ ∀ i m σ H, W i m σ H →
      ((Itt K a).stop i H ∧ D.nx σ H) ∨ ((Itt K a).go i H ∧ ∃ N : L2.St → Hp → Prop, (∀ σ' H', N σ' H' → ∃ m', m' < m ∧ W (i + 1) m' σ' H') ∧ ∀ x H', (Itt K a).yld i H x H' → g x σ H' fun σ2 H2 => tb { D with nx := N, ct := N, bk := D.nx } σ2 H2) :=
  ⟨p, rfl, ⟨xs, hS⟩, for_tup Pv h0 hl hs hd⟩
theorem w_forR {g : TG} {tb : TS} {D : Ends} {n : Int} (hn : 0 ≤ n ∧ n < 2 ^ 62) (Pv : Nat → L2.St → Hp → Prop) (h0 : Pv 0 σ H)
    (hs : ∀ (i : Nat) σ H, (i : Int) < n → Pv i σ H → g (.int (0 + (i : Int))) σ H fun σ2 H2 => tb { D with nx := Pv (i + 1), ct := Pv (i + 1), bk := D.nx } σ2 H2) (hd : ∀ σ H, Pv n.toNat σ H → D.nx σ H) :
    ∃ j : Int, [V.int n] = [.int j] ∧ -(2 ^ 62) ≤ j ∧ j < 2 ^ 62 ∧ ∃ W : Nat → Nat → L2.St → Hp → Prop, (∃ m, W 0 m σ H) ∧ ∀ i m σ H, W i m σ H →
      ((Itr 0 j.toNat).stop i H ∧ D.nx σ H) ∨ ((Itr 0 j.toNat).go i H ∧ ∃ N : L2.St → Hp → Prop, (∀ σ' H', N σ' H' → ∃ m', m' < m ∧ W (i + 1) m' σ' H') ∧ ∀ x H', (Itr 0 j.toNat).yld i H x H' → g x σ H' fun σ2 H2 => tb { D with nx := N, ct := N, bk := D.nx } σ2 H2) :=
  ⟨n, rfl, by omega, hn.2, for_range Pv h0 (fun i σ H hi p => hs i σ H (by omega) p) hd⟩
/-- while: a word with a measure; the test is read in the word -/
theorem w_while {c : TT} {tb : TS} {D : Ends} (W : Nat → L2.St → Hp → Prop) (m : Nat) (h0 : W m σ H)
    (hs : ∀ m σ H, W m σ H → c σ H fun b H1 => if b = true then ∃ N : L2.St → Hp → Prop, (∀ σ' H', N σ' H' → ∃ m', m' < m ∧ W m' σ' H') ∧ tb { D with nx := N, ct := N, bk := D.nx } σ H1 else D.nx σ H1) : tWhile c tb D σ H :=
  ⟨W, ⟨m, h0⟩, hs⟩
theorem w_gtup {n : Nat} {t : TGs} {a : Addr} {xs : List V} {Q : L2.St → Hp → Prop} (h : H a = some (.tup xs)) (hn : xs.length = n) (q : t xs σ H Q) : gTup K n t (.ref a) σ H Q := ⟨a, xs, rfl, SqT.of h, hn, q⟩
theorem w_gcons {t : TG} {u : TGs} {v : V} {r : List V} {Q : L2.St → Hp → Prop} (h : t v σ H fun σ' H' => u r σ' H' Q) : gCons t u (v :: r) σ H Q := ⟨v, r, rfl, h⟩
theorem w_gnil {Q : L2.St → Hp → Prop} (h : Q σ H) : gNil [] σ H Q := ⟨rfl, h⟩
theorem w_app {l : Addr} {xs : List V} {y : V} {Q : VK} (h : H l = some (.lst xs)) (hz : xs.length < sizeLine) (q : Q .non (upd H l (.lst (xs ++ [y])))) : rAppend (.ref l) [y] H Q := ⟨l, xs, y, rfl, rfl, h, hz, q⟩
end
end Fw
end

section
-- part Fd
set_option Elab.async false
set_option linter.all false
set_option maxRecDepth 100000
set_option maxHeartbeats 2000000
/-! Fd: data -/
namespace Fw
open PySem PySem.Spec PyProof.Rows L2
section
variable {K : PySem.W.Frag} {H H' : Hp}
theorem dp_ints : ∀ ns : List Int, DpAll K H (ns.map V.int) (ns.map PyData.int)
  | [] => .nil
  | n :: r => .cons (.int n) (dp_ints r)
theorem lay_ints : ∀ ns : List Int, PyData.canLayAll0 (ns.map PyData.int) = true
  | [] => rfl
  | _ :: r => lay_ints r
theorem dep_ints (ns : List Int) : PyData.depth (.list (ns.map PyData.int)) ≤ 64 := by
  have h : ∀ ns : List Int, PyData.depthAll (ns.map PyData.int) ≤ 1 := by
    intro ns
    induction ns with
    | nil => simp [PyData.depthAll]
    | cons n r ih => simp only [List.map_cons, PyData.depthAll, PyData.depth]; omega
  have := h ns
  simp only [PyData.depth]
  omega
theorem shaped_ints (ns : List Int) : SeqAt.shaped (.list (ns.map PyData.int)) = true := by
  unfold SeqAt.shaped
  rw [Bool.and_eq_true]
  exact ⟨lay_ints ns, decide_eq_true (dep_ints ns)⟩
theorem eqv_nil (ns : List Int) : PyData.eqv (.list (ns.map PyData.int)) (.list []) = decide (ns = []) := by
  cases ns <;> rfl
theorem cut_ints (ns : List Int) (lo hi : Option Int) : ∃ ms : List Int, cutV (ns.map V.int) lo hi = ms.map V.int ∧ ms.length ≤ ns.length := by
  refine ⟨(ns.drop (HT.sIx (ns.map V.int).length 0 lo)).take (HT.sIx (ns.map V.int).length (ns.map V.int).length hi - HT.sIx (ns.map V.int).length 0 lo), ?_, ?_⟩
  · unfold cutV
    rw [List.map_take, List.map_drop]
  · rw [List.length_take, List.length_drop]
    omega
end
end Fw
end

section
-- part Fx
set_option Elab.async false
set_option linter.all false
set_option maxRecDepth 100000
set_option maxHeartbeats 2000000
/-! Fx: texts as lists of signs -/
namespace Fw
open PySem PySem.Spec PyProof.Rows L2 SX
open Builtin.Str PySem.StrLaws
abbrev S (l : List Nat) : Str := SX.S l
theorem fromIx {n p : Nat} : fromIndex n (p : Int) = p := by
  unfold fromIndex
  rw [if_neg (by omega)]
  omega
theorem at_pre (l b : List Nat) (i : Nat) : At (S l) (S b) (S l).length i ↔ (i + b.length ≤ l.length ∧ (l.drop i).take b.length = b) := by
  unfold At
  rw [S_len, S_len, subAt_eq, S_len]
  simp [SX.S]
theorem starts3 (l b : List Nat) (p : Nat) : Txt.startswith3 (S l) (S b) (p : Int) = decide ((l.drop p).take b.length = b ∧ p + b.length ≤ l.length) := by
  unfold Txt.startswith3
  rw [fromIx, S_len, S_len, subAt_eq, S_len]
  have e : (S l).cps.toList = l := by simp [SX.S]
  have e2 : (S b).cps.toList = b := by simp [SX.S]
  rw [e, e2]
  by_cases h : p + b.length ≤ l.length
  · by_cases h2 : (l.drop p).take b.length = b
    · simp [h, h2]
    · simp [h, h2]
  · simp [h]
/-- the place of the first c from p on -/
theorem find3_one (l : List Nat) (c p : Nat) : Txt.find3 (S l) (S [c]) (p : Int) = (match (l.drop p).findIdx? (· == c) with | some k => ((p + k : Nat) : Int) | none => -1) := by
  unfold Txt.find3
  rw [fromIx]
  have one : ∀ i, At (S l) (S [c]) (S l).length i ↔ l[i]? = some c := by
    intro i
    rw [at_pre]
    constructor
    · rintro ⟨h1, h2⟩
      simp only [List.length_singleton] at h1 h2
      have hi : i < l.length := by omega
      rw [List.getElem?_eq_getElem hi]
      have e3 : List.take 1 (List.drop i l) = [l[i]] := by rw [List.drop_eq_getElem_cons hi]; rfl
      rw [e3] at h2
      exact congrArg some (List.cons.inj h2).1
    · intro h
      obtain ⟨hi, e⟩ := List.getElem?_eq_some_iff.mp h
      refine ⟨by simp; omega, ?_⟩
      rw [List.drop_eq_getElem_cons hi]
      simp [e]
  rcases occ_head_from (S l) (S [c]) p 1 (by decide) with ⟨h0, hn⟩ | ⟨i, r, h0, hi, ha, hn⟩
  · rw [h0]
    have : (l.drop p).findIdx? (· == c) = none := by
      rw [List.findIdx?_eq_none_iff]
      intro x hx
      obtain ⟨k, hk, e⟩ := List.getElem_of_mem hx
      rw [List.getElem_drop] at e
      cases q : x == c with
      | false => rfl
      | true =>
        have hl : p + k < l.length := by rw [List.length_drop] at hk; omega
        exact absurd ((one (p + k)).mpr (by rw [List.getElem?_eq_getElem hl, e, eq_of_beq q])) (hn (p + k) (by omega))
    rw [this]
  · rw [h0]
    have hk : (l.drop p).findIdx? (· == c) = some (i - p) := by
      rw [List.findIdx?_eq_some_iff_getElem]
      obtain ⟨hl, e⟩ := List.getElem?_eq_some_iff.mp ((one i).mp ha)
      have e2 : (l.drop p)[i - p]? = some c := by
        rw [List.getElem?_drop]
        have : p + (i - p) = i := by omega
        rw [this]
        exact (one i).mp ha
      obtain ⟨h3, e3⟩ := List.getElem?_eq_some_iff.mp e2
      refine ⟨h3, by simp [e3], fun j hj => ?_⟩
      have hj2 : p + j < i := by omega
      have := hn (p + j) (by omega) hj2
      rw [one] at this
      rw [List.getElem_drop]
      intro q
      apply this
      rw [List.getElem?_eq_getElem (by omega)]
      simp at q
      rw [q]
    rw [hk]
    show ((i : Nat) : Int) = ((p + (i - p) : Nat) : Int)
    have : p + (i - p) = i := by omega
    rw [this]
theorem cutS_nat (l : List Nat) {i j : Nat} (hi : i ≤ l.length) (hj : j ≤ l.length) : cutS (S l) (some (i : Int)) (some (j : Int)) = S ((l.drop i).take (j - i)) := by
  unfold cutS
  rw [HT.sIx_nat, HT.sIx_nat, S_len, Nat.min_eq_left hi, Nat.min_eq_left hj]
theorem cutS_any (l : List Nat) {i j : Nat} (hi : i ≤ l.length) : cutS (S l) (some (i : Int)) (some (j : Int)) = S ((l.drop i).take (j - i)) := by
  unfold cutS
  rw [HT.sIx_nat, HT.sIx_nat, S_len, Nat.min_eq_left hi]
  have : ((l.drop i).take (min j l.length - i)) = (l.drop i).take (j - i) := by
    by_cases h : j ≤ l.length
    · rw [Nat.min_eq_left h]
    · rw [Nat.min_eq_right (by omega), List.take_of_length_le (by rw [List.length_drop]; omega), List.take_of_length_le (by rw [List.length_drop]; omega)]
  show (⟨_⟩ : Str) = SX.S _
  rw [show (S l).cps.toList = l by simp [SX.S], this]
theorem cutS_from (l : List Nat) {i : Nat} (hi : i ≤ l.length) : cutS (S l) (some (i : Int)) none = S (l.drop i) := by
  unfold cutS
  rw [HT.sIx_nat, HT.sIx_none, S_len, Nat.min_eq_left hi]
  show (⟨_⟩ : Str) = SX.S _
  rw [show (S l).cps.toList = l by simp [SX.S], List.take_of_length_le (by rw [List.length_drop]; omega)]
theorem atI_nat2 {α : Type} {l : List α} {i : Nat} {c : α} (h : l[i]? = some c) : atI l (i : Int) = some c := atI_nat h
section
variable {H : Hp} {Q : VK} {K : PySem.W.Frag}
theorem w_ixS {l : List Nat} {i c : Nat} (hz : l.length ≤ sizeLine) (h : l[i]? = some c) (q : Q (.str (S [c])) H) : rIxS (.str (S l)) (.int (i : Int)) H Q :=
  ⟨S l, (i : Int), c, rfl, rfl, by rw [S_len]; exact hz, by rw [show (S l).cps.toList = l by simp [SX.S]]; exact atI_nat h, q⟩
theorem S_list (l : List Nat) : (S l).cps.toList = l := by simp [SX.S]
theorem w_inS {l : List Nat} {c : Nat} {P : Nat → Str → Prop} (q : P c (S l)) : ∃ (d : Nat) (z : Str), V.str (S [c]) = .str ⟨#[d]⟩ ∧ V.str (S l) = .str z ∧ P d z := ⟨c, S l, rfl, rfl, q⟩
theorem w_lenS {l : List Nat} {P : Str → Prop} (hz : l.length ≤ sizeLine) (q : P (S l)) : ∃ z, [V.str (S l)] = [V.str z] ∧ z.length ≤ sizeLine ∧ P z := ⟨S l, rfl, by rw [S_len]; exact hz, q⟩
theorem w_find3 {a b : Str} {p : Int} {P : Str → Str → Int → Prop} (q : P a b p) : ∃ (x y : Str) (i : Int), V.str a = .str x ∧ [V.str b, V.int p] = [.str y, .int i] ∧ P x y i := ⟨a, b, p, rfl, rfl, q⟩
theorem w_2s {a b : Str} {P : Str → Str → Prop} (q : P a b) : ∃ (x y : Str), V.str a = .str x ∧ [V.str b] = [.str y] ∧ P x y := ⟨a, b, rfl, rfl, q⟩
theorem w_slS {l : List Nat} {i j : Nat} (hz : l.length ≤ sizeLine) (hi : i ≤ l.length) (q : Q (.str (S ((l.drop i).take (j - i)))) H) : rSlS (.str (S l)) (some (i : Int)) (some (j : Int)) H Q :=
  ⟨S l, rfl, by rw [S_len]; exact hz, by rw [cutS_any l hi]; exact q⟩
theorem w_slS1 {l : List Nat} {i : Nat} (hz : l.length ≤ sizeLine) (hi : i ≤ l.length) (q : Q (.str (S (l.drop i))) H) : rSlS (.str (S l)) (some (i : Int)) none H Q :=
  ⟨S l, rfl, by rw [S_len]; exact hz, by rw [cutS_from l hi]; exact q⟩
theorem w_addS {a b : List Nat} {P : Str → Str → Prop} (hz : a.length + b.length ≤ sizeLine) (q : P (S a) (S b)) : ∃ i j, V.str (S a) = .str i ∧ V.str (S b) = .str j ∧ i.length + j.length ≤ sizeLine ∧ P i j :=
  ⟨S a, S b, rfl, rfl, by rw [S_len, S_len]; exact hz, q⟩
theorem tyS {z : Str} : tyV K "str" (.str z) H := rfl
theorem tyL {p : Addr} {xs : List V} (h : H p = some (.lst xs)) : tyV K "list" (.ref p) H := Or.inl ⟨rfl, xs, SqL.of h⟩
end
section
variable {K : PySem.W.Frag} {σ : L2.St} {H : Hp} {Q : VK} {tl te : TE}
theorem w_iStr {R : It → Hp → Prop} (h : te σ H fun v H1 => ∃ x, v = .str x ∧ R (Its x) H1) : iStr te σ H R := h
theorem for_str {x : Str} {g : TG} {tb : TS} {D : Ends} (Pv : Nat → L2.St → Hp → Prop) (h0 : Pv 0 σ H)
    (hs : ∀ i c σ H, x.cps.toList[i]? = some c → Pv i σ H → g (.str (S [c])) σ H fun σ2 H2 => tb { D with nx := Pv (i + 1), ct := Pv (i + 1), bk := D.nx } σ2 H2) (hd : ∀ σ H, Pv x.cps.toList.length σ H → D.nx σ H) :
    ∃ W : Nat → Nat → L2.St → Hp → Prop, (∃ m, W 0 m σ H) ∧ ∀ i m σ H, W i m σ H →
      ((Its x).stop i H ∧ D.nx σ H) ∨ ((Its x).go i H ∧ ∃ N : L2.St → Hp → Prop, (∀ σ' H', N σ' H' → ∃ m', m' < m ∧ W (i + 1) m' σ' H') ∧ ∀ v H', (Its x).yld i H v H' → g v σ H' fun σ2 H2 => tb { D with nx := N, ct := N, bk := D.nx } σ2 H2) := by
  have el : x.cps.toList.length = x.cps.size := by simp
  refine ⟨fun i m σ H => m = x.cps.size - i ∧ i ≤ x.cps.size ∧ Pv i σ H, ⟨_, rfl, Nat.zero_le _, h0⟩, ?_⟩
  rintro i m σ H ⟨rfl, hi, p⟩
  by_cases hlt : i < x.cps.size
  · refine .inr ⟨hlt, Pv (i + 1), fun σ' H' p' => ⟨x.cps.size - (i + 1), by omega, rfl, hlt, p'⟩, fun v H' y => ?_⟩
    obtain ⟨e, c, hc, rfl⟩ := y
    subst e
    exact hs i c σ _ (by simpa using hc) p
  · have e : i = x.cps.size := by omega
    subst e
    exact .inl ⟨Nat.le_refl _, hd σ H (by rw [el]; exact p)⟩
theorem w_forS {l : List Nat} {g : TG} {tb : TS} {D : Ends} (Pv : Nat → L2.St → Hp → Prop) (h0 : Pv 0 σ H)
    (hs : ∀ i c σ H, l[i]? = some c → Pv i σ H → g (.str (S [c])) σ H fun σ2 H2 => tb { D with nx := Pv (i + 1), ct := Pv (i + 1), bk := D.nx } σ2 H2) (hd : ∀ σ H, Pv l.length σ H → D.nx σ H) :
    ∃ x, V.str (S l) = .str x ∧ ∃ W : Nat → Nat → L2.St → Hp → Prop, (∃ m, W 0 m σ H) ∧ ∀ i m σ H, W i m σ H →
      ((Its x).stop i H ∧ D.nx σ H) ∨ ((Its x).go i H ∧ ∃ N : L2.St → Hp → Prop, (∀ σ' H', N σ' H' → ∃ m', m' < m ∧ W (i + 1) m' σ' H') ∧ ∀ v H', (Its x).yld i H v H' → g v σ H' fun σ2 H2 => tb { D with nx := N, ct := N, bk := D.nx } σ2 H2) :=
  ⟨S l, rfl, for_str Pv h0 (fun i c σ H hi p => hs i c σ H (by simpa [SX.S] using hi) p) (fun σ H p => hd σ H (by simpa [SX.S] using p))⟩
theorem find_one (l : List Nat) (c : Nat) : Txt.find (S l) (S [c]) = (match l.findIdx? (· == c) with | some k => (k : Int) | none => -1) := by
  have h := find3_one l c 0
  have e : Txt.find3 (S l) (S [c]) ((0 : Nat) : Int) = Txt.find (S l) (S [c]) := by
    unfold Txt.find3 Txt.find
    rw [fromIx]
    rfl
  rw [← e, h, List.drop_zero]
  cases l.findIdx? (· == c) with
  | none => rfl
  | some k =>
    show ((0 + k : Nat) : Int) = (k : Int)
    rw [Nat.zero_add]
theorem w_1s {a : Str} {P : Str → Prop} (q : P a) : ∃ (x : Str), V.str a = .str x ∧ ([] : List V) = [] ∧ P x := ⟨a, rfl, rfl, q⟩
end
section
variable {K : PySem.W.Frag} {σ : L2.St} {H : Hp} {Q : VK} {i : Nat}
theorem str_len_app (a b : Str) : (a ++ b).length = a.length + b.length := by
  rw [TL.len_tl, TL.len_tl, TL.len_tl, TL.tl_append, List.length_append]
theorem num_short {n : Nat} (h : n < 10 ^ 7) : (Str.ofString (toString ((n : Nat) : Int))).length ≤ 7 := by
  rw [TL.len_tl, TL.tl_num]
  exact TL.numL_len (by decide) h
theorem w_fmt {n : Nat} {Q : VK} (h : n < 10 ^ 7) (hv : σ[i]? = some (some (.int (n : Int)))) (q : Q (.str (toString ((n : Nat) : Int))) H) : tFmt (tVar i) σ H Q := by
  refine ⟨_, hv, .inr ⟨_, rfl, ?_, q⟩⟩
  by_cases h0 : n = 0
  · subst h0
    decide
  · rw [Int.natAbs_natCast]
    have := (Nat.log2_lt h0 (k := 24)).mpr (Nat.lt_of_lt_of_le h (by decide))
    omega
/-- f'a{n}' and f'a{n}b' -/
theorem w_msg2 {a : Str} {n : Nat} {R : Str → Hp → Prop} (ha : a.length ≤ 1000) (h : n < 10 ^ 7) (hv : σ[i]? = some (some (.int (n : Int)))) (q : ∀ z, R z H) : tJs [tC (.str a), tFmt (tVar i)] Str.empty σ H R := by
  have e0 : (Str.empty ++ a).length = a.length := by rw [str_len_app]; exact Nat.zero_add _
  have l := num_short h
  refine ⟨a, rfl, by rw [e0]; exact Nat.le_trans ha (by decide), w_fmt h hv ⟨_, rfl, ?_, q _⟩⟩
  rw [str_len_app, e0]
  exact Nat.le_trans (Nat.add_le_add ha l) (by decide)
theorem w_msg3 {a b : Str} {n : Nat} {R : Str → Hp → Prop} (ha : a.length ≤ 1000) (hb : b.length ≤ 1000) (h : n < 10 ^ 7) (hv : σ[i]? = some (some (.int (n : Int)))) (q : ∀ z, R z H) : tJs [tC (.str a), tFmt (tVar i), tC (.str b)] Str.empty σ H R := by
  have e0 : (Str.empty ++ a).length = a.length := by rw [str_len_app]; exact Nat.zero_add _
  have l := num_short h
  refine ⟨a, rfl, by rw [e0]; exact Nat.le_trans ha (by decide), w_fmt h hv ⟨_, rfl, ?_, ⟨b, rfl, ?_, q _⟩⟩⟩
  · rw [str_len_app, e0]
    exact Nat.le_trans (Nat.add_le_add ha l) (by decide)
  · rw [str_len_app, str_len_app, e0]
    exact Nat.le_trans (Nat.add_le_add (Nat.add_le_add ha l) hb) (by decide)
/-- in a tuple of texts -/
theorem inV_txt (a : List Nat) : ∀ ls : List (List Nat), inV (.str (S a)) (ls.map fun l => V.str (S l)) = decide (a ∈ ls)
  | [] => by simp [inV]
  | l :: r => by
    have ih := inV_txt a r
    unfold inV at ih ⊢
    rw [List.map_cons, List.any_cons, ih]
    show ((S l == S a) || decide (a ∈ r)) = _
    rw [SX.S_beq]
    by_cases h : l = a
    · subst h; simp
    · have : (l == a) = false := by simp [h]
      rw [this, Bool.false_or]
      have h' : ¬ a = l := fun e => h e.symm
      simp [h']
theorem flat_txt : ∀ ls : List (List Nat), (ls.map fun l => V.str (S l)).all flatV = true
  | [] => rfl
  | _ :: r => flat_txt r
theorem w_inT {a : List Nat} {p : Addr} {ls : List (List Nat)} (h : SqT K H p (ls.map fun l => V.str (S l))) (q : Q (.bl (decide (a ∈ ls))) H) : rIn K false (.str (S a)) (.ref p) H Q :=
  ⟨p, _, rfl, .inr h, rfl, flat_txt ls, by rw [inV_txt]; exact q⟩
theorem str_eq {a b : List Nat} : (decide (V.str (S a) = V.str (S b))) = decide (a = b) := by
  by_cases h : a = b
  · subst h; simp
  · rw [decide_eq_false h, decide_eq_false]
    intro e
    exact h (SX.S_inj (V.str.inj e))
theorem w_eqS {a b : List Nat} (q : Q (.bl (decide (a = b))) H) : rEq (.str (S a)) (.str (S b)) H Q := ⟨rfl, by rw [str_eq]; exact q⟩
theorem w_neS {a b : List Nat} (q : Q (.bl (!decide (a = b))) H) : rNe (.str (S a)) (.str (S b)) H Q := ⟨rfl, by rw [str_eq]; exact q⟩
theorem int_eq {a b : Int} : (decide (V.int a = V.int b)) = decide (a = b) := by simp
theorem w_eqI {a b : Int} (q : Q (.bl (decide (a = b))) H) : rEq (.int a) (.int b) H Q := ⟨rfl, by rw [int_eq]; exact q⟩
theorem w_iteN {p A B : Prop} [Decidable p] (h1 : ¬ p → A) (h2 : p → B) : if (!decide p) = true then A else B := by
  by_cases c : p
  · rw [decide_eq_true c]; exact h2 c
  · rw [decide_eq_false c]; exact h1 c
end
section
variable {X : Cx}
/-- a text times a number -/
theorem op_mulS : OpR X (binaryOp .Mult) (fun x y H Q => ∃ (a : Str) (n : Int), x = .str a ∧ y = .int n ∧ a.length ≤ 4096 ∧ n ≤ 4096 ∧ -(2 ^ 63 : Int) ≤ n ∧ Q (.str (Txt.mul a n)) H) := by
  intro pins s σ H x y v u Q I rx ry h
  obtain ⟨a, n, rfl, rfl, h1, h2, h3, q⟩ := h
  obtain ⟨t, rfl⟩ := rx
  obtain ⟨t', rfl⟩ := ry
  exact PySem.SB.mul (PyProof.Rows.mulOk_of 4096 4096 h1 (by omega) h3 (by decide) (by decide)) fun t'' k => ⟨.str (Txt.mul a n), H, I.tok k, ⟨t'', rfl⟩, q⟩
/-- 'c' op e, where e wants a token that is out -/
theorem pe_opStr {op : Operator} {r : R2} {x : Str} {j : Nat} {p pos : Pos} {f : Expr} {tf : TE} (ho : OpR X (binaryOp op) r) (hb : PET X f tf) : PE X (.BinOp (.Constant (.str x) j p) op f pos) (tOp r (tC (.str x)) tf) := by
  refine ⟨fun pins s σ H Q I h => ?_⟩
  refine wpAny_BinOp (Calls.Constant_str ?_)
  exact thn (hb pins { s with toks := s.toks + 1 } σ H _ (by show 1 ≤ s.toks + 1; omega) (I.tok _) h) fun u s2 ⟨y, H2, I2, r2, q2⟩ => ho pins s2 σ H2 (.str x) y _ u Q I2 ⟨_, rfl⟩ r2 q2
theorem w_repl {σ : L2.St} {H : Hp} {Q : VK} {to : TE} {y z : Str} (h : to σ H fun v H1 => ∃ x, v = .str x ∧ x.length + (x.length + 1) * z.length ≤ 16777216 ∧ Q (.str (Txt.replace x y z)) H1) : CwR.tReplC to y z σ H Q := h
end
theorem vS_cat (a b : List Nat) : V.str (SX.S a ++ SX.S b) = V.str (SX.S (a ++ b)) := congrArg V.str (SX.S_cat a b)
/-- ' doubled -/
theorem repl_dbl (l : List Nat) : Txt.replace (S l) (S [39]) (S [39, 39]) = S (StrLaws.dbl 39 l) := by
  rw [PyProof.Rows.replace_dbl (S l) (S [39]) (S [39, 39]) 39 rfl rfl, S_list]
theorem dbl_len (c : Nat) : ∀ l : List Nat, (StrLaws.dbl c l).length ≤ 2 * l.length
  | [] => by simp [StrLaws.dbl]
  | k :: r => by
    have := dbl_len c r
    rw [StrLaws.dbl]
    split
    · simp only [List.length_cons]; omega
    · simp only [List.length_cons]; omega
end Fw
end

section
-- part Hkl
set_option Elab.async false
set_option linter.all false
set_option maxRecDepth 100000
/-! Hkl: a Hook that looks at the objects of a list of addresses as it is given -/
namespace HkL
open PySem PySem.Spec PyProof.Rows L2 He
def obsL (L : List Addr) (fa : List Fa) (fn : List DefD) (ts : List Tab) (tf : List Defn) (ex : PySem.W.Frag → Bool) (g : Addr → Option Obj) : AlX :=
  (obsT fa fn ts (frT g L), ex (frT g L) && tabsB g tf (frT g L))
variable {L : List Addr} {fa : List Fa} {fn : List DefD} {ts : List Tab} {tf : List Defn} {ex : PySem.W.Frag → Bool} {w : World} {h : Heap}
theorem tabs_at {K : PySem.W.Frag} (b : tabsB h.get? tf K = true) {p : Defn} (hp : p ∈ tf) : PySem.W.codeHdIn K (cT K p).1 (cT K p).2 = true ∧ ∃ o, h.get? (cT K p).2 = some o ∧ emptyTab o = true := by
  obtain ⟨c1, c2⟩ := Bool.and_eq_true_iff.mp (List.all_eq_true.mp b p hp)
  refine ⟨c1, ?_⟩
  generalize h.get? (cT K p).2 = z at c2
  cases z with
  | some o => exact ⟨o, rfl, c2⟩
  | none => cases c2
theorem saysL_of (e : obsL L fa fn ts tf ex h.get? = valX fn ts w) : SaysX fa fn ts tf ex w h (frT h.get? L) := by
  have b := Bool.and_eq_true_iff.mp (congrArg Prod.snd e)
  refine { t := congrArg Prod.fst e, more := b.1, hd := fun p hp => (tabs_at b.2 hp).1, out := fun p hp => ?_, empty := fun p hp => ?_ }
  · obtain ⟨o, q, z⟩ := (tabs_at b.2 hp).2
    exact frT_none q z
  · obtain ⟨o, q, z⟩ := (tabs_at b.2 hp).2
    rw [q, emptyTab_eq z]
def hookL (L : List Addr) (fa : List Fa) (fn : List DefD) (ts : List Tab) (tf : List Defn) (ex : PySem.W.Frag → Bool) : PySem.W.Hook where
  α := AlX
  obs s := obsL L fa fn ts tf ex s.heap.get?
  val w := valX fn ts w
  says w h := ∃ K : PySem.W.Frag, K.In h ∧ SaysX fa fn ts tf ex w h K
  of _ _ e := ⟨_, frT_in, saysL_of e⟩
  keeps _ _ _ := fun ⟨K, hK, c⟩ k => ⟨K, PySem.W.Frag.In.keeps hK k, c.t, c.more, c.hd, c.out, fun p hp => k _ _ (c.empty p hp)⟩
theorem obsL_eq {g : Addr → Option Obj} {s : Shared} (q : ∀ a, g a = s.heap.get? a) : obsL L fa fn ts tf ex g = (hookL L fa fn ts tf ex).obs s := by
  cases (funext q : g = s.heap.get?)
  rfl
/-- addresses from a on, so many -/
def ups (a n : Nat) : List Addr := (List.range n).map (a + ·)
end HkL
end

section
-- part q0
set_option Elab.async false
set_option linter.all false
set_option maxRecDepth 100000
set_option maxHeartbeats 2000000
namespace M24
open PySem PySem.Spec PyProof.Rows L2 Fw
inductive Sg where
  | eq | ne | lt | le | gt | ge
deriving DecidableEq
def sgS : Sg → Str
  | .eq => Str.ofString "=" | .ne => Str.ofString "<>" | .lt => Str.ofString "<" | .le => Str.ofString "<=" | .gt => Str.ofString ">" | .ge => Str.ofString ">="
def turn : Sg → Sg
  | .eq => .eq | .ne => .ne | .lt => .gt | .le => .ge | .gt => .lt | .ge => .le
end M24
end

section
-- part t0
set_option Elab.async false
set_option linter.all false
set_option maxRecDepth 100000
set_option maxHeartbeats 2000000
namespace K24
open PySem PySem.Spec PyProof.Rows L2 Fw
def top (i : Nat) : Stmt := PySem.Challenge.pw_tablestack_k24_what_conditions_ask_of_ke.main.body.getD i (.Pass ⟨0, 0, 0, 0⟩)
abbrev s__law_dice : Stmt := top 117
abbrev s__law_roll : Stmt := top 118
abbrev s__law_rounds : Stmt := top 119
abbrev s_kind_of : Stmt := top 9
abbrev s_same_kind : Stmt := top 12
abbrev s_compare : Stmt := top 13
abbrev s_both : Stmt := top 16
abbrev s_negated : Stmt := top 18
abbrev s_sign_number : Stmt := top 32
abbrev s_fixed : Stmt := top 33
abbrev s_key_of_value : Stmt := top 34
abbrev s_key_of : Stmt := top 35
abbrev s_upper_key : Stmt := top 36
abbrev s_input_place : Stmt := top 41
abbrev s_inputs : Stmt := top 42
abbrev s_own_plans : Stmt := top 47
abbrev s_part_places : Stmt := top 48
abbrev s_bound_parts : Stmt := top 49
abbrev s_reads : Stmt := top 50
abbrev s_fields_in : Stmt := top 51
abbrev s_Evaluator___init__ : Stmt := inClass (top 55) 0
abbrev s_Evaluator_within : Stmt := inClass (top 55) 1
abbrev s_Evaluator_value_of : Stmt := inClass (top 55) 2
abbrev s_null_value : Stmt := top 56
abbrev s_known_value : Stmt := top 57
abbrev s_field_value : Stmt := top 58
abbrev s_comparison_truth : Stmt := top 61
abbrev s_and_truth : Stmt := top 62
abbrev s_asked : Stmt := top 65
abbrev s_isnull_truth : Stmt := top 66
abbrev s_bound_conjuncts : Stmt := top 99
abbrev s_Bounds___init__ : Stmt := inClass (top 106) 0
abbrev s_Bounds_is_open : Stmt := inClass (top 106) 1
abbrev s_Bounds_shown : Stmt := inClass (top 106) 2
abbrev s_sided : Stmt := top 107
abbrev s_is_own_field : Stmt := top 108
abbrev s_asked_of : Stmt := top 109
abbrev s_first_bound : Stmt := top 110
abbrev s_key_range : Stmt := top 111
abbrev s_selectivity : Stmt := top 112
abbrev s_part_left : Stmt := top 113
abbrev s_expected_rows : Stmt := top 114
abbrev s_expected_pairs : Stmt := top 115
abbrev s__law_value : Stmt := top 120
abbrev s__law_literal : Stmt := top 121
abbrev s__law_cond : Stmt := top 122
abbrev s_law : Stmt := top 123
end K24
end

section
-- part l0
set_option Elab.async false
set_option linter.all false
set_option maxRecDepth 100000
set_option maxHeartbeats 2000000
namespace K24
open PySem PySem.Spec PyProof.Rows L2 Fw M24
theorem abs_rel {x : V} {u : Value} (h : absV u = some x) : RelV x u := by
  cases u <;> first
    | (cases h; rfl)
    | (cases h; exact ⟨_, rfl⟩)
    | cases h
theorem vals_of : ∀ {us : List Value} {xs : List V}, us.map absV = xs.map some → Vals xs us
  | [], [], _ => .nil
  | [], _ :: _, h => by cases h
  | _ :: _, [], h => by cases h
  | u :: us, x :: xs, h => by
    obtain ⟨h1, h2⟩ := List.cons.inj h
    exact .cons (abs_rel h1) (vals_of h2)
def tupB (K : PySem.W.Frag) (a : Addr) (xs : List V) : Bool := match K.lookup a with
  | some ⟨.type c, _, .seq its _, _⟩ => decide (c = "tuple") && (decide (its.size ≤ 100) && decide (its.toList.map absV = xs.map some))
  | _ => false
theorem tupB_ok {K : PySem.W.Frag} {a : Addr} {xs : List V} (h : tupB K a xs = true) (H : Hp) : SqT K H a xs := by
  unfold tupB at h
  cases q : K.lookup a with
  | none =>
    rw [q] at h
    cases h
  | some o =>
    obtain ⟨oc, od, dt, osl⟩ := o
    rw [q] at h
    cases oc with
    | type c =>
      cases dt with
      | seq its n =>
        have h' : (decide (c = "tuple") && (decide (its.size ≤ 100) && decide (its.toList.map absV = xs.map some))) = true := h
        obtain ⟨h1, h2⟩ := He.ba h'
        obtain ⟨h3, h4⟩ := He.ba h2
        exact .inr ⟨_, its, n, q, congrArg Value.type (of_decide_eq_true h1), rfl, Nat.le_trans (of_decide_eq_true h3) (by decide), vals_of (of_decide_eq_true h4)⟩
      | _ => cases h
    | _ => cases dt <;> cases h
def kInt (K : PySem.W.Frag) (d : Addr) (z : Str) (n : Int) : Bool := match PySem.W.nsIn K d z with
  | some (some (.int m _)) => decide (m = n)
  | _ => false
theorem kInt_ok {K : PySem.W.Frag} {d : Addr} {z : Str} {n : Int} (h : kInt K d z n = true) : ∃ t, PySem.W.nsIn K d z = some (some (.int n t)) := by
  unfold kInt at h
  split at h
  · rename_i m t e
    exact ⟨t, by rw [e, of_decide_eq_true h]⟩
  · cases h
def kStr (K : PySem.W.Frag) (d : Addr) (z : Str) (n : Str) : Bool := match PySem.W.nsIn K d z with
  | some (some (.str m _)) => decide (m = n)
  | _ => false
theorem kStr_ok {K : PySem.W.Frag} {d : Addr} {z n : Str} (h : kStr K d z n = true) : ∃ t, PySem.W.nsIn K d z = some (some (.str n t)) := by
  unfold kStr at h
  split at h
  · rename_i m t e
    exact ⟨t, by rw [e, of_decide_eq_true h]⟩
  · cases h
def kTup (K : PySem.W.Frag) (d : Addr) (z : Str) (xs : List V) : Bool := match PySem.W.nsIn K d z with
  | some (some (.ref t)) => tupB K t xs
  | _ => false
theorem kTup_ok {K : PySem.W.Frag} {d : Addr} {z : Str} {xs : List V} (h : kTup K d z xs = true) : ∃ t, PySem.W.nsIn K d z = some (some (.ref t)) ∧ ∀ H : Hp, SqT K H t xs := by
  unfold kTup at h
  split at h
  · rename_i t e
    exact ⟨t, e, fun H => tupB_ok h H⟩
  · cases h
abbrev emA (K : PySem.W.Frag) : Addr := He.dflAt ("Evaluator", some "__init__") 0 K
def kRef (K : PySem.W.Frag) (z : String) (f : Str) : Bool := He.eqO (PySem.W.nsIn K (He.ga K "VALUES") (Str.ofString z)) (some (some (.ref (He.ga K f))))
def exV (K : PySem.W.Frag) : Bool := kRef K "null" "null_value" && (kRef K "int" "known_value" && (kRef K "text" "known_value" && (kRef K "field" "field_value" && (kRef K "cmp" "comparison_truth" && (kRef K "and" "and_truth" && kRef K "isnull" "isnull_truth")))))
def exI (K : PySem.W.Frag) : Bool := kInt K (He.ga K "INPUT_PLACES") (Str.ofString "filter") 2 && (kInt K (He.ga K "INPUT_PLACES") (Str.ofString "limit") 3 && kInt K (He.ga K "INPUT_PLACES") (Str.ofString "join") 3)
def exP (K : PySem.W.Frag) : Bool := ["null", "int", "text", "field"].all fun z => kTup K (He.ga K "PART_PLACES") (Str.ofString z) [.int 1, .int 1]
def exQ (K : PySem.W.Frag) : Bool := ["null", "int", "text", "field"].all fun z => He.eqO (PySem.W.nsIn K (He.ga K "QUERY_PLACES") (Str.ofString z)) (some none)
def exT (K : PySem.W.Frag) : Bool := ([Sg.eq, .lt, .le, .gt, .ge].all fun g => kStr K (He.ga K "TURNED") (sgS g) (sgS (turn g))) && He.eqO (PySem.W.nsIn K (He.ga K "TURNED") (sgS .ne)) (some none)
def exS (K : PySem.W.Frag) : Bool := tupB K (emA K) [] && (tupB K (He.ga K "LOW_SIGNS") [.str (Str.ofString ">"), .str (Str.ofString ">=")] && tupB K (He.ga K "HIGH_SIGNS") [.str (Str.ofString "<"), .str (Str.ofString "<=")])
end K24
end

section
-- part K24XI0
set_option Elab.async false
set_option linter.all false
set_option maxRecDepth 100000
set_option maxHeartbeats 0
namespace K24
open PySem PySem.Spec PyProof.Rows L2 Fw M24
def fnD : List He.DefD := [⟨("kind_of", none), "kind_of", "kind_of", defArgs s_kind_of, defBody s_kind_of, defScope s_kind_of, [], []⟩,
  ⟨("same_kind", none), "same_kind", "same_kind", defArgs s_same_kind, defBody s_same_kind, defScope s_same_kind, [], []⟩,
  ⟨("compare", none), "compare", "compare", defArgs s_compare, defBody s_compare, defScope s_compare, [], []⟩,
  ⟨("both", none), "both", "both", defArgs s_both, defBody s_both, defScope s_both, [], []⟩,
  ⟨("negated", none), "negated", "negated", defArgs s_negated, defBody s_negated, defScope s_negated, [], []⟩,
  ⟨("sign_number", none), "sign_number", "sign_number", defArgs s_sign_number, defBody s_sign_number, defScope s_sign_number, [], []⟩,
  ⟨("fixed", none), "fixed", "fixed", defArgs s_fixed, defBody s_fixed, defScope s_fixed, [], []⟩,
  ⟨("key_of_value", none), "key_of_value", "key_of_value", defArgs s_key_of_value, defBody s_key_of_value, defScope s_key_of_value, [], []⟩,
  ⟨("key_of", none), "key_of", "key_of", defArgs s_key_of, defBody s_key_of, defScope s_key_of, [], []⟩,
  ⟨("upper_key", none), "upper_key", "upper_key", defArgs s_upper_key, defBody s_upper_key, defScope s_upper_key, [], []⟩,
  ⟨("input_place", none), "input_place", "input_place", defArgs s_input_place, defBody s_input_place, defScope s_input_place, [], []⟩,
  ⟨("inputs", none), "inputs", "inputs", defArgs s_inputs, defBody s_inputs, defScope s_inputs, [], []⟩,
  ⟨("own_plans", none), "own_plans", "own_plans", defArgs s_own_plans, defBody s_own_plans, defScope s_own_plans, [], []⟩,
  ⟨("part_places", none), "part_places", "part_places", defArgs s_part_places, defBody s_part_places, defScope s_part_places, [], []⟩,
  ⟨("bound_parts", none), "bound_parts", "bound_parts", defArgs s_bound_parts, defBody s_bound_parts, defScope s_bound_parts, [], []⟩,
  ⟨("reads", none), "reads", "reads", defArgs s_reads, defBody s_reads, defScope s_reads, [], []⟩,
  ⟨("fields_in", none), "fields_in", "fields_in", defArgs s_fields_in, defBody s_fields_in, defScope s_fields_in, [.int 0], []⟩,
  ⟨("null_value", none), "null_value", "null_value", defArgs s_null_value, defBody s_null_value, defScope s_null_value, [], []⟩,
  ⟨("known_value", none), "known_value", "known_value", defArgs s_known_value, defBody s_known_value, defScope s_known_value, [], []⟩,
  ⟨("field_value", none), "field_value", "field_value", defArgs s_field_value, defBody s_field_value, defScope s_field_value, [], []⟩,
  ⟨("comparison_truth", none), "comparison_truth", "comparison_truth", defArgs s_comparison_truth, defBody s_comparison_truth, defScope s_comparison_truth, [], []⟩,
  ⟨("and_truth", none), "and_truth", "and_truth", defArgs s_and_truth, defBody s_and_truth, defScope s_and_truth, [], []⟩,
  ⟨("asked", none), "asked", "asked", defArgs s_asked, defBody s_asked, defScope s_asked, [], []⟩,
  ⟨("isnull_truth", none), "isnull_truth", "isnull_truth", defArgs s_isnull_truth, defBody s_isnull_truth, defScope s_isnull_truth, [], []⟩,
  ⟨("bound_conjuncts", none), "bound_conjuncts", "bound_conjuncts", defArgs s_bound_conjuncts, defBody s_bound_conjuncts, defScope s_bound_conjuncts, [], []⟩,
  ⟨("sided", none), "sided", "sided", defArgs s_sided, defBody s_sided, defScope s_sided, [], []⟩,
  ⟨("is_own_field", none), "is_own_field", "is_own_field", defArgs s_is_own_field, defBody s_is_own_field, defScope s_is_own_field, [], []⟩,
  ⟨("asked_of", none), "asked_of", "asked_of", defArgs s_asked_of, defBody s_asked_of, defScope s_asked_of, [], []⟩,
  ⟨("first_bound", none), "first_bound", "first_bound", defArgs s_first_bound, defBody s_first_bound, defScope s_first_bound, [], []⟩,
  ⟨("key_range", none), "key_range", "key_range", defArgs s_key_range, defBody s_key_range, defScope s_key_range, [], []⟩,
  ⟨("selectivity", none), "selectivity", "selectivity", defArgs s_selectivity, defBody s_selectivity, defScope s_selectivity, [], []⟩,
  ⟨("part_left", none), "part_left", "part_left", defArgs s_part_left, defBody s_part_left, defScope s_part_left, [], []⟩,
  ⟨("expected_rows", none), "expected_rows", "expected_rows", defArgs s_expected_rows, defBody s_expected_rows, defScope s_expected_rows, [], []⟩,
  ⟨("expected_pairs", none), "expected_pairs", "expected_pairs", defArgs s_expected_pairs, defBody s_expected_pairs, defScope s_expected_pairs, [], []⟩,
  ⟨("_law_dice", none), "_law_dice", "_law_dice", defArgs s__law_dice, defBody s__law_dice, defScope s__law_dice, [], []⟩,
  ⟨("_law_roll", none), "_law_roll", "_law_roll", defArgs s__law_roll, defBody s__law_roll, defScope s__law_roll, [], []⟩,
  ⟨("_law_rounds", none), "_law_rounds", "_law_rounds", defArgs s__law_rounds, defBody s__law_rounds, defScope s__law_rounds, [], []⟩,
  ⟨("_law_value", none), "_law_value", "_law_value", defArgs s__law_value, defBody s__law_value, defScope s__law_value, [], []⟩,
  ⟨("_law_literal", none), "_law_literal", "_law_literal", defArgs s__law_literal, defBody s__law_literal, defScope s__law_literal, [], []⟩,
  ⟨("_law_cond", none), "_law_cond", "_law_cond", defArgs s__law_cond, defBody s__law_cond, defScope s__law_cond, [], []⟩,
  ⟨("law", none), "law", "law", defArgs s_law, defBody s_law, defScope s_law, [], []⟩,
  ⟨("Evaluator", some "__init__"), "__init__", "Evaluator.__init__", defArgs s_Evaluator___init__, defBody s_Evaluator___init__, defScope s_Evaluator___init__, [.adr (He.dflAt ("Evaluator", some "__init__") 0)], []⟩,
  ⟨("Evaluator", some "within"), "within", "Evaluator.within", defArgs s_Evaluator_within, defBody s_Evaluator_within, defScope s_Evaluator_within, [], []⟩,
  ⟨("Evaluator", some "value_of"), "value_of", "Evaluator.value_of", defArgs s_Evaluator_value_of, defBody s_Evaluator_value_of, defScope s_Evaluator_value_of, [], []⟩,
  ⟨("Bounds", some "__init__"), "__init__", "Bounds.__init__", defArgs s_Bounds___init__, defBody s_Bounds___init__, defScope s_Bounds___init__, [], []⟩,
  ⟨("Bounds", some "is_open"), "is_open", "Bounds.is_open", defArgs s_Bounds_is_open, defBody s_Bounds_is_open, defScope s_Bounds_is_open, [], []⟩,
  ⟨("Bounds", some "shown"), "shown", "Bounds.shown", defArgs s_Bounds_shown, defBody s_Bounds_shown, defScope s_Bounds_shown, [], []⟩]
def faD : List He.Fa := [.glo "kind_of", .glo "same_kind", .glo "compare", .glo "both", .glo "negated", .glo "sign_number", .glo "fixed", .glo "key_of_value", .glo "key_of", .glo "upper_key", .glo "input_place", .glo "inputs", .glo "own_plans", .glo "part_places", .glo "bound_parts", .glo "reads", .glo "fields_in", .glo "null_value", .glo "known_value", .glo "field_value", .glo "comparison_truth", .glo "and_truth", .glo "asked", .glo "isnull_truth", .glo "bound_conjuncts", .glo "sided", .glo "is_own_field", .glo "asked_of", .glo "first_bound", .glo "key_range", .glo "selectivity", .glo "part_left", .glo "expected_rows", .glo "expected_pairs", .glo "_law_dice", .glo "_law_roll", .glo "_law_rounds", .glo "_law_value", .glo "_law_literal", .glo "_law_cond", .glo "law", .glo "Evaluator", .glo "Bounds", .glo "LOW_SIGNS", .glo "HIGH_SIGNS", .glo "VALUES", .glo "INPUT_PLACES", .glo "PART_PLACES", .glo "QUERY_PLACES", .glo "TURNED", .free "abs", .free "int", .free "str", .free "len", .free "range", .free "isinstance", .free "tuple", .free "sorted", .free "max", .free "min", .free "zip", .free "enumerate", .str "ALPHABET" (S [10, 32, 33, 34, 35, 36, 38, 39, 40, 41, 42, 43, 44, 45, 46, 47, 48, 49, 50, 51, 52, 53, 54, 55, 56, 57, 58, 59, 60, 61, 62, 63, 64, 65, 66, 67, 68, 69, 70, 71, 72, 73, 74, 75, 76, 77, 78, 79, 80, 81, 82, 83, 84, 85, 86, 87, 88, 89, 90, 91, 92, 93, 94, 95, 96, 97, 98, 99, 100, 101, 102, 103, 104, 105, 106, 107, 108, 109, 110, 111, 112, 113, 114, 115, 116, 117, 118, 119, 120, 121, 122, 123, 124, 125, 126]), .int "HIGHEST" 9223372036854775807, .int "NULL_MARK" 1, .int "INT_MARK" 2, .int "TEXT_MARK" 3, .int "TEXT_END" 1, .int "FIRST_SIGN" 2, .int "INT_BYTES" 8, .int "EQUAL_PART" 10, .int "OTHER_PART" 3, .cls "Evaluator", .noat "Evaluator" "origin", .noat "Evaluator" "rows", .noat "Evaluator" "kept_rows", .meth "Evaluator" "within", .meth "Evaluator" "value_of", .mkr "Evaluator", .cls "Bounds", .noat "Bounds" "equals", .noat "Bounds" "low", .noat "Bounds" "high", .meth "Bounds" "is_open", .meth "Bounds" "shown", .mkr "Bounds"]
def exD (K : PySem.W.Frag) : Bool := exS K && (exV K && (exI K && (exP K && (exQ K && (exT K)))))
abbrev tfD : List He.Defn := []
abbrev R0 : PySem.W.OpenRow := PySem.W.OpenLaw.row PySem.Challenge.rw_tablestack_k24_what_conditions_ask_of_ke
def L0 : List Addr := 3 :: HkL.ups 11 742
abbrev hk0 : PySem.W.Hook := HkL.hookL L0 faD fnD [((fun K => He.ga K "VALUES"), [("null" : Str) , ("int" : Str) , ("text" : Str) , ("truth" : Str) , ("field" : Str) , ("op" : Str) , ("neg" : Str) , ("cmp" : Str) , ("and" : Str) , ("or" : Str) , ("not" : Str) , ("isnull" : Str) , ("in" : Str) , ("inquery" : Str) , ("between" : Str) , ("like" : Str) , ("case" : Str) , ("exists" : Str) , ("scalar" : Str)]), ((fun K => He.ga K "INPUT_PLACES"), [("unit" : Str) , ("scan" : Str) , ("filter" : Str) , ("project" : Str) , ("join" : Str) , ("group" : Str) , ("distinct" : Str) , ("union" : Str) , ("except" : Str) , ("intersect" : Str) , ("sort" : Str) , ("limit" : Str)]), ((fun K => He.ga K "PART_PLACES"), [("field" : Str) , ("truth" : Str) , ("null" : Str) , ("int" : Str) , ("text" : Str) , ("exists" : Str) , ("scalar" : Str) , ("neg" : Str) , ("not" : Str) , ("isnull" : Str) , ("inquery" : Str) , ("op" : Str) , ("cmp" : Str) , ("and" : Str) , ("or" : Str) , ("like" : Str) , ("between" : Str)]), ((fun K => He.ga K "QUERY_PLACES"), [("exists" : Str) , ("scalar" : Str) , ("inquery" : Str)]), ((fun K => He.ga K "TURNED"), [("=" : Str) , ("<" : Str) , ("<=" : Str) , (">" : Str) , (">=" : Str)])] tfD exD
def ob0 (s : PySem.W.SharedT) : He.AlX := HkL.obsL L0 faD fnD [((fun K => He.ga K "VALUES"), [("null" : Str) , ("int" : Str) , ("text" : Str) , ("truth" : Str) , ("field" : Str) , ("op" : Str) , ("neg" : Str) , ("cmp" : Str) , ("and" : Str) , ("or" : Str) , ("not" : Str) , ("isnull" : Str) , ("in" : Str) , ("inquery" : Str) , ("between" : Str) , ("like" : Str) , ("case" : Str) , ("exists" : Str) , ("scalar" : Str)]), ((fun K => He.ga K "INPUT_PLACES"), [("unit" : Str) , ("scan" : Str) , ("filter" : Str) , ("project" : Str) , ("join" : Str) , ("group" : Str) , ("distinct" : Str) , ("union" : Str) , ("except" : Str) , ("intersect" : Str) , ("sort" : Str) , ("limit" : Str)]), ((fun K => He.ga K "PART_PLACES"), [("field" : Str) , ("truth" : Str) , ("null" : Str) , ("int" : Str) , ("text" : Str) , ("exists" : Str) , ("scalar" : Str) , ("neg" : Str) , ("not" : Str) , ("isnull" : Str) , ("inquery" : Str) , ("op" : Str) , ("cmp" : Str) , ("and" : Str) , ("or" : Str) , ("like" : Str) , ("between" : Str)]), ((fun K => He.ga K "QUERY_PLACES"), [("exists" : Str) , ("scalar" : Str) , ("inquery" : Str)]), ((fun K => He.ga K "TURNED"), [("=" : Str) , ("<" : Str) , ("<=" : Str) , (">" : Str) , (">=" : Str)])] tfD exD (HandSHeadRun.getT s)
theorem ob0_eq (s : PySem.W.SharedT) : ob0 s = hk0.obs s.abs := HkL.obsL_eq (HandSHeadRun.getT_eq s)
def loose0 : List Str := [("TableError" : Str), ("TextError" : Str), ("KindFault" : Str), ("PlanFault" : Str), ("HIGHEST" : Str), ("ANY_SIGN" : Str), ("ANY_TEXT" : Str), ("kind_of" : Str), ("in_range" : Str), ("rank" : Str), ("same_kind" : Str), ("compare" : Str), ("arithmetic" : Str), ("concat" : Str), ("both" : Str), ("either" : Str), ("negated" : Str), ("like" : Str), ("closed" : Str), ("stepped" : Str), ("sum_of" : Str), ("least_of" : Str), ("ALPHABET" : Str), ("NULL_MARK" : Str), ("INT_MARK" : Str), ("TEXT_MARK" : Str), ("TEXT_END" : Str), ("FIRST_SIGN" : Str), ("INT_BYTES" : Str), ("sign_number" : Str), ("fixed" : Str), ("key_of_value" : Str), ("key_of" : Str), ("upper_key" : Str), ("INPUT_PLACES" : Str), ("PART_PLACES" : Str), ("QUERY_PLACES" : Str), ("input_place" : Str), ("inputs" : Str), ("width" : Str), ("expressions_of" : Str), ("operations" : Str), ("subplans" : Str), ("own_plans" : Str), ("part_places" : Str), ("bound_parts" : Str), ("reads" : Str), ("fields_in" : Str), ("is_correlated" : Str), ("reads_outside" : Str), ("Evaluator" : Str), ("null_value" : Str), ("known_value" : Str), ("field_value" : Str), ("operation_value" : Str), ("minus_value" : Str), ("comparison_truth" : Str), ("and_truth" : Str), ("or_truth" : Str), ("not_truth" : Str), ("asked" : Str), ("isnull_truth" : Str), ("in_truth" : Str), ("inquery_truth" : Str), ("within_bounds" : Str), ("between_truth" : Str), ("like_truth" : Str), ("case_value" : Str), ("exists_truth" : Str), ("scalar_value" : Str), ("VALUES" : Str), ("member" : Str), ("least_scalar" : Str), ("sorted_once" : Str), ("aggregated" : Str), ("distinct_rows" : Str), ("combined" : Str), ("limited" : Str), ("operation_rows" : Str), ("unit_rows" : Str), ("scan_rows" : Str), ("filter_rows" : Str), ("project_rows" : Str), ("join_rows" : Str), ("group_rows" : Str), ("call_value" : Str), ("distinct_operation" : Str), ("combined_rows" : Str), ("ranks_of" : Str), ("first_of" : Str), ("ordered_rows" : Str), ("limited_rows" : Str), ("ROWS" : Str), ("bound_conjuncts" : Str), ("TURNED" : Str), ("LOW_SIGNS" : Str), ("HIGH_SIGNS" : Str), ("EQUAL_PART" : Str), ("OTHER_PART" : Str), ("Bounds" : Str), ("sided" : Str), ("is_own_field" : Str), ("asked_of" : Str), ("first_bound" : Str), ("key_range" : Str), ("selectivity" : Str), ("part_left" : Str), ("expected_rows" : Str), ("expected_pairs" : Str), ("_law_dice" : Str), ("_law_roll" : Str), ("_law_rounds" : Str), ("_law_value" : Str), ("_law_literal" : Str), ("_law_cond" : Str)]
end K24
end

section
-- part K24XJ
set_option Elab.async false
set_option linter.all false
set_option maxRecDepth 100000
set_option maxHeartbeats 0
namespace K24
open PySem PySem.Spec PyProof.Rows L2 Fw M24
def atR (b : Bool) (g : String → Bool) : String → Bool := fun s => match decEq s "special-get-raises" with
    | Decidable.isTrue _ => b
    | Decidable.isFalse _ => g s
/-- what a world answers at one name -/
theorem at_row (f : String → Bool) : ∃ (b : Bool) (g : String → Bool), f = atR b g := ⟨f "special-get-raises", f, funext fun s => by
  unfold atR
  cases h : decEq s "special-get-raises" with
  | isTrue e => exact congrArg f e
  | isFalse _ => rfl⟩
theorem joinP {α γ1 γ3 γ4 β : Type} {o : Option α} {A : α → Bool} {B : α → β} {C : α → (γ1 × γ3) × γ4} {a : Bool} {b : β} {c : (γ1 × γ3) × γ4} (h1 : o.map (fun s => (A s, B s, (C s).1.2, (C s).2)) = some (a, b, c.1.2, c.2)) (h2 : o.map (fun s => (C s).1.1) = some c.1.1) :
    o.map (fun s => (A s, B s, C s)) = some (a, b, c) := by
  cases o with
  | none => cases h1
  | some s =>
    have e1 := Option.some.inj h1
    have e2 : (C s).1.1 = c.1.1 := Option.some.inj h2
    have f1 : A s = a := congrArg Prod.fst e1
    have f2 : B s = b := congrArg (fun z => z.2.1) e1
    have f3 : (C s).1.2 = c.1.2 := congrArg (fun z => z.2.2.1) e1
    have f4 : (C s).2 = c.2 := congrArg (fun z => z.2.2.2) e1
    have g : C s = c := Prod.ext (Prod.ext e2 f3) f4
    show some (A s, B s, C s) = some (a, b, c)
    rw [f1, f2, g]
abbrev q0 : Program := PySem.W.view R0.prog [123]
theorem run_t1 (w : World) (g : String → Bool) (h : w.params.followText = atR true g) (os : OsState) :
    (HandSHeadRun.endF (HandSHeadRun.stepQ (HandSHeadRun.denQ HandSHeadRun.tabQ) R0.prog w) 12000 R0.prog w os).map (fun s => (HandSHeadRun.looksF R0.prog (PySem.W.boot_heap w.params) s.abs, HandSHeadRun.seenQ q0 loose0 (importedModules R0.prog.main.body) (fun s => PySem.W.xlAt q0 [] s && PySem.W.recOk R0.toRowW.records s) s.abs, (ob0 s).1.2, (ob0 s).2)) = some ((true, PySem.W.openGood q0 loose0, (hk0.val w : He.AlX).1.2, (hk0.val w : He.AlX).2)) := by
  rcases w with ⟨dr, P⟩
  rcases P with ⟨a1, a2, a3, a4, a5, ft, a7, a8, a9, a10, a11, a12, a13, a14, a15, a16, a17, a18, a19, a20, a21, a22, a23, a24, a25⟩
  change ft = _ at h
  subst h
  kernel_rfl
theorem run_t2 (w : World) (g : String → Bool) (h : w.params.followText = atR true g) (os : OsState) :
    (HandSHeadRun.endF (HandSHeadRun.stepQ (HandSHeadRun.denQ HandSHeadRun.tabQ) R0.prog w) 12000 R0.prog w os).map (fun s => (ob0 s).1.1) = some ((hk0.val w : He.AlX).1.1) := by
  rcases w with ⟨dr, P⟩
  rcases P with ⟨a1, a2, a3, a4, a5, ft, a7, a8, a9, a10, a11, a12, a13, a14, a15, a16, a17, a18, a19, a20, a21, a22, a23, a24, a25⟩
  change ft = _ at h
  subst h
  kernel_rfl
theorem run_f1 (w : World) (g : String → Bool) (h : w.params.followText = atR false g) (os : OsState) :
    (HandSHeadRun.endF (HandSHeadRun.stepQ (HandSHeadRun.denQ HandSHeadRun.tabQ) R0.prog w) 12000 R0.prog w os).map (fun s => (HandSHeadRun.looksF R0.prog (PySem.W.boot_heap w.params) s.abs, HandSHeadRun.seenQ q0 loose0 (importedModules R0.prog.main.body) (fun s => PySem.W.xlAt q0 [] s && PySem.W.recOk R0.toRowW.records s) s.abs, (ob0 s).1.2, (ob0 s).2)) = some ((true, PySem.W.openGood q0 loose0, (hk0.val w : He.AlX).1.2, (hk0.val w : He.AlX).2)) := by
  rcases w with ⟨dr, P⟩
  rcases P with ⟨a1, a2, a3, a4, a5, ft, a7, a8, a9, a10, a11, a12, a13, a14, a15, a16, a17, a18, a19, a20, a21, a22, a23, a24, a25⟩
  change ft = _ at h
  subst h
  kernel_rfl
theorem run_f2 (w : World) (g : String → Bool) (h : w.params.followText = atR false g) (os : OsState) :
    (HandSHeadRun.endF (HandSHeadRun.stepQ (HandSHeadRun.denQ HandSHeadRun.tabQ) R0.prog w) 12000 R0.prog w os).map (fun s => (ob0 s).1.1) = some ((hk0.val w : He.AlX).1.1) := by
  rcases w with ⟨dr, P⟩
  rcases P with ⟨a1, a2, a3, a4, a5, ft, a7, a8, a9, a10, a11, a12, a13, a14, a15, a16, a17, a18, a19, a20, a21, a22, a23, a24, a25⟩
  change ft = _ at h
  subst h
  kernel_rfl
theorem run0 (w : World) : HandSHeadRun.RunEq R0 (PySem.W.view R0.prog [123]) hk0 ob0 12000 loose0 w := by
  obtain ⟨b, g, h⟩ := at_row w.params.followText
  intro os
  cases b with
  | true => exact joinP (run_t1 w g h os) (run_t2 w g h os)
  | false => exact joinP (run_f1 w g h os) (run_f2 w g h os)
end K24
end

section
-- part Dc
set_option Elab.async false
set_option linter.all false
set_option maxRecDepth 100000
set_option maxHeartbeats 800000
/-! Dc: what the dice of a law promise -/
namespace Dc
open PySem PySem.Spec PyProof.Rows L2 Fw
def spDice : Sp := fun vs H Q _ => ∃ c : Int, vs = [.int c] ∧ ∀ p a b e, H p = none → Q (.ref p) (upd H p (.lst [.int a, .int b, .int e]))
/-- the drawn number is anything below m -/
def spRoll : Sp := fun vs H Q _ => ∃ (d : Addr) (m a b c : Int), vs = [.ref d, .int m] ∧ H d = some (.lst [.int a, .int b, .int c]) ∧ 0 < m ∧ m < 2 ^ 60 ∧
  ∀ r a' b' c' : Int, 0 ≤ r → r < m → Q (.int r) (upd H d (.lst [.int a', .int b', .int c']))
/-- a list of new dice -/
def spRounds (K : PySem.W.Frag) : Sp := fun vs H Q _ => ∃ (a : Addr) (ns : List Int) (m : Int), vs = [.ref a, .int m] ∧ SqL K H a (ns.map V.int) ∧ ns.length ≤ 63 ∧
  ∀ (p : Addr) (H' : Hp) (ds : List Addr), Same H H' → H p = none → H' p = some (.lst (ds.map V.ref)) → (∀ d ∈ ds, Dice H' d ∧ H d = none) → ds.length ≤ 63 → Q (.ref p) H'
end Dc
end

section
-- part FsD
set_option Elab.async false
set_option linter.all false
set_option maxRecDepth 100000
set_option maxHeartbeats 2000000
namespace Fw
open PySem PySem.Spec PyProof.Rows L2
section
variable {K : PySem.W.Frag} {σ : L2.St} {H : Hp} {Q : VK} {tl te : TE} {ta : TA} {j : Nat} {vs : List Nat} {tt : TT} {g : TG} {wi : TI}
theorem w_lcRp {n : Int} {R : Addr → Hp → Prop} (hn : 0 ≤ n ∧ n < 2 ^ 62) (h : ∀ D, H D = none → ∃ Pv : Nat → Hp → Prop, Pv 0 (upd H D (.lst [])) ∧
      (∀ (i : Nat) H2, (i : Int) < n → Pv i H2 → g (.int (0 + (i : Int))) (wipe σ vs) H2 fun σ2 H2 => wipe σ2 vs = wipe σ vs ∧ tt σ2 H2 fun b H3 =>
        if b = true then te σ2 H3 fun y H4 => ∃ acc, H4 D = some (.lst acc) ∧ acc.length < sizeLine ∧ Pv (i + 1) (upd H4 D (.lst (acc ++ [y]))) else Pv (i + 1) H3) ∧ (∀ H2, Pv n.toNat H2 → R D H2)) :
    -(2 ^ 62) ≤ n ∧ n < 2 ^ 62 ∧ ∀ D, H D = none → ∃ W : Nat → Nat → Hp → Prop, (∃ m, W 0 m (upd H D (.lst []))) ∧ ∀ i m H, W i m H →
      ((Itr 0 n.toNat).stop i H ∧ R D H) ∨ ((Itr 0 n.toNat).go i H ∧ ∃ Nx : Hp → Prop, (∀ H', Nx H' → ∃ m', m' < m ∧ W (i + 1) m' H') ∧ ∀ x H', (Itr 0 n.toNat).yld i H x H' → g x (wipe σ vs) H' fun σ2 H2 => wipe σ2 vs = wipe σ vs ∧ tt σ2 H2 fun b H3 =>
        if b = true then te σ2 H3 fun y H4 => ∃ acc, H4 D = some (.lst acc) ∧ acc.length < sizeLine ∧ Nx (upd H4 D (.lst (acc ++ [y]))) else Nx H3) := by
  obtain ⟨j, e, a, b, r⟩ := w_lcR (Q := fun v H => ∀ D, v = .ref D → R D H) hn fun D hD => by
    obtain ⟨Pv, x, y, z⟩ := h D hD
    exact ⟨Pv, x, y, fun H2 p D' e => by cases e; exact z H2 p⟩
  cases e
  refine ⟨a, b, fun D hD => ?_⟩
  obtain ⟨W, w1, w2⟩ := r D hD
  refine ⟨W, w1, fun i m H hw => ?_⟩
  rcases w2 i m H hw with ⟨x, y⟩ | x
  · exact .inl ⟨x, y D rfl⟩
  · exact .inr x
theorem w_forRp {g : TG} {tb : TS} {D : Ends} {n : Int} (hn : 0 ≤ n ∧ n < 2 ^ 62) (Pv : Nat → L2.St → Hp → Prop) (h0 : Pv 0 σ H)
    (hs : ∀ (i : Nat) σ H, (i : Int) < n → Pv i σ H → g (.int (0 + (i : Int))) σ H fun σ2 H2 => tb { D with nx := Pv (i + 1), ct := Pv (i + 1), bk := D.nx } σ2 H2) (hd : ∀ σ H, Pv n.toNat σ H → D.nx σ H) :
    -(2 ^ 62) ≤ n ∧ n < 2 ^ 62 ∧ ∃ W : Nat → Nat → L2.St → Hp → Prop, (∃ m, W 0 m σ H) ∧ ∀ i m σ H, W i m σ H →
      ((Itr 0 n.toNat).stop i H ∧ D.nx σ H) ∨ ((Itr 0 n.toNat).go i H ∧ ∃ N : L2.St → Hp → Prop, (∀ σ' H', N σ' H' → ∃ m', m' < m ∧ W (i + 1) m' σ' H') ∧ ∀ x H', (Itr 0 n.toNat).yld i H x H' → g x σ H' fun σ2 H2 => tb { D with nx := N, ct := N, bk := D.nx } σ2 H2) := by
  obtain ⟨j, e, r⟩ := w_forR hn Pv h0 hs hd
  cases e
  exact r
theorem newl {d p : Addr} {H0 Hc H' : Hp} {o : HO} (k : Kp d H0 Hc) (hd : Dice Hc d) (hp : Hc p = none) (hX : upd Hc p o = H') : Kp d H0 H' ∧ Kp d Hc H' ∧ Dice H' d ∧ p ≠ d ∧ H0 p = none ∧ H' p = some o := by
  subst hX
  have hd' := hd
  obtain ⟨a, b, c, hd'⟩ := hd'
  have n : p ≠ d := (ne_of_none hd' hp).symm
  refine ⟨k.trans (Kp.new hp), Kp.new hp, hd.new hp, n, ?_, upd_same⟩
  cases e : H0 p with
  | none => rfl
  | some u => rw [k _ _ n e] at hp; cases hp
theorem w_roll {d : Addr} {m : Int} {H0 Hc : Hp} {Q : VK} {E : XK} (h0 : 0 < m) (h1 : m < 2 ^ 60) (k : Kp d H0 Hc) (hd : Dice Hc d) (h : ∀ (r : Int) (H' : Hp), 0 ≤ r → r < m → Kp d H0 H' → Kp d Hc H' → Dice H' d → Q (.int r) H') : Dc.spRoll [.ref d, .int m] Hc Q E := by
  obtain ⟨a, b, c, hd⟩ := hd
  exact ⟨d, m, a, b, c, rfl, hd, h0, h1, fun r a' b' c' e0 e1 => h r _ e0 e1 (k.trans Kp.at_) Kp.at_ ⟨a', b', c', upd_same⟩⟩
/-- a list of signs drawn from cs -/
theorem w_draws {d : Addr} {H0 : Hp} {cs : List Nat} {k : Nat} {m n : Int} {x : Str} {R : Addr → Hp → Prop} (hx : x = S cs) (hm : m = cs.length) (h0 : 0 < m) (h1 : m ≤ 1000) (hn : 0 ≤ n ∧ n ≤ 1000) (kp : Kp d H0 H) (dd : Dice H d)
    (hσ : ∀ v, ((wipe σ vs).set k (some v))[0]? = some (some (.ref d))) (hw : ∀ v, wipe ((wipe σ vs).set k (some v)) vs = wipe σ vs)
    (h : ∀ (D : Addr) (H2 : Hp) (l : List Nat), Kp d H0 H2 → Kp d H H2 → Dice H2 d → H2 D = some (.lst (l.map fun c => V.str (S [c]))) → (∀ c ∈ l, c ∈ cs) → l.length = n.toNat → R D H2) :
    -(2 ^ 62) ≤ n ∧ n < 2 ^ 62 ∧ ∀ D, H D = none → ∃ W : Nat → Nat → Hp → Prop, (∃ m, W 0 m (upd H D (.lst []))) ∧ ∀ i m' H, W i m' H →
      ((Itr 0 n.toNat).stop i H ∧ R D H) ∨ ((Itr 0 n.toNat).go i H ∧ ∃ Nx : Hp → Prop, (∀ H', Nx H' → ∃ m'', m'' < m' ∧ W (i + 1) m'' H') ∧ ∀ z H', (Itr 0 n.toNat).yld i H z H' → gName k z (wipe σ vs) H' fun σ2 H2 => wipe σ2 vs = wipe σ vs ∧ tYes σ2 H2 fun b H3 =>
        if b = true then tOp rIxS (tC (.str x)) (tCl Dc.spRoll C8.E0 (tCons (tVar 0) (tCons (tC (.int m)) tNil))) σ2 H3 fun y H4 => ∃ acc, H4 D = some (.lst acc) ∧ acc.length < sizeLine ∧ Nx (upd H4 D (.lst (acc ++ [y]))) else Nx H3) := by
  subst hx
  refine w_lcRp ⟨hn.1, Int.lt_of_le_of_lt hn.2 (by decide)⟩ fun D hD => ?_
  obtain ⟨kp1, kp2, dd1, nD, fD, eD⟩ := newl (o := .lst []) kp dd hD rfl
  refine ⟨fun i H2 => ∃ l : List Nat, l.length = i ∧ (∀ c ∈ l, c ∈ cs) ∧ H2 D = some (.lst (l.map fun c => V.str (S [c]))) ∧ Kp d H0 H2 ∧ Kp d H H2 ∧ Dice H2 d, ⟨[], rfl, fun c hc => absurd hc List.not_mem_nil, eD, kp1, kp2, dd1⟩, ?_, ?_⟩
  · rintro i H2 hi ⟨l, rfl, hl, e2, k2, k3, d2⟩
    refine w_gname ⟨hw _, w_yes ?_⟩
    rw [if_pos rfl]
    refine w_op (w_c (w_cl (w_cons (w_var (hσ _) (w_cons (w_c (w_nil (w_roll h0 (Int.lt_of_le_of_lt h1 (by decide)) k2 d2 fun r H3 r0 r1 k4 k5 d4 => ?_))))))))
    obtain ⟨q, rfl⟩ := Int.eq_ofNat_of_zero_le r0
    have hq : q < cs.length := by omega
    refine w_ixS (Nat.le_trans (by omega : cs.length ≤ 1000) (by decide)) (List.getElem?_eq_getElem hq) ?_
    have e3 := k5 _ _ nD e2
    have hf : H D = none := hD
    have fin : ∀ {Hs : Hp}, Kp d Hs H3 → Hs D = none → Kp d Hs (upd H3 D (.lst ((l.map fun c => V.str (S [c])) ++ [V.str (S [cs[q]])]))) := fun {Hs} a f b o nb e => by
      rw [upd_ne (ne_of_none e f)]
      exact a b o nb e
    refine ⟨_, e3, by rw [List.length_map]; exact Nat.lt_of_lt_of_le (by omega : l.length < 1001) (by decide), l ++ [cs[q]], by simp, ?_, by rw [upd_same, List.map_append]; rfl, fin k4 fD, fin (k3.trans k5) hD, ?_⟩
    · intro c hc
      rcases List.mem_append.mp hc with hc | hc
      · exact hl c hc
      · rw [List.mem_singleton.mp hc]; exact List.getElem_mem hq
    · obtain ⟨a, b, c, e⟩ := d4
      exact ⟨a, b, c, by rw [upd_ne nD.symm]; exact e⟩
  · rintro H2 ⟨l, hl, hc, e, k1, k2, d2⟩
    exact h D H2 l k1 k2 d2 e hc hl
theorem joinL_one : ∀ l : List Nat, TL.joinL [] (l.map fun c => [c]) = l
  | [] => rfl
  | [c] => rfl
  | c :: d :: r => by
    have ih := joinL_one (d :: r)
    show [c] ++ ([] ++ TL.joinL [] ([d] :: r.map fun c => [c])) = c :: d :: r
    rw [List.nil_append]
    rw [List.map_cons] at ih
    rw [ih]
    rfl
theorem join1 {K : PySem.W.Frag} {H : Hp} {D : Addr} {l : List Nat} (hl : l.length ≤ 1000) (e : H D = some (.lst (l.map fun c => V.str (S [c])))) :
    SqL K H D (List.map V.str (l.map fun c => S [c])) ∧ (List.map (fun x : Str => x.length) (l.map fun c => S [c])).sum + (l.map fun c => S [c]).length * (S []).length ≤ 16777216 ∧ Txt.join (S []) (l.map fun c => S [c]) = S l := by
  have e1 : (l.map fun c => V.str (S [c])) = (l.map fun c => S [c]).map V.str := by rw [List.map_map]; rfl
  have e2 : (l.map fun c => S [c]) = (l.map fun c => [c]).map SX.S := by rw [List.map_map]; rfl
  have e3 : ∀ l : List Nat, (List.map (fun x : Str => x.length) (l.map fun c => S [c])).sum = l.length := fun l => by
    induction l with
    | nil => rfl
    | cons c r ih => simp only [List.map_cons, List.sum_cons, ih, List.length_cons, SX.S_len, List.length_nil]; omega
  refine ⟨by rw [← e1]; exact SqL.of e, ?_, ?_⟩
  · rw [e3, show (S []).length = 0 from rfl, Nat.mul_zero]
    omega
  · rw [e2, show S [] = SX.S [] from rfl, SX.join_S, joinL_one]
end
end Fw
end

section
-- part FyD
set_option Elab.async false
set_option linter.all false
set_option maxRecDepth 100000
set_option maxHeartbeats 2000000
/-! Fy5: more rules -/
namespace Fw
open PySem PySem.Spec PyProof.Rows L2 SX
section
variable {K : PySem.W.Frag} {σ : L2.St} {H : Hp} {Q : VK} {te : TE} {t : TA} {QA : List V → Hp → Prop}
theorem isi_str : PySem.W.kitOne K (.type "str") (.type "str") = some true := by rfl
theorem isi_int : PySem.W.kitOne K (.type "int") (.type "str") = some false := by rfl
theorem isi_non : PySem.W.kitOne K (.type "NoneType") (.type "str") = some false := by rfl
theorem w_isiS {x : Str} (q : Q (.bl true) H) : L2.rIsi K [.str x, .ty "str"] H Q := ⟨_, _, _, _, _, rfl, .ty _, .base (.str x), isi_str, q⟩
theorem w_isiI {i : Int} (q : Q (.bl false) H) : L2.rIsi K [.int i, .ty "str"] H Q := ⟨_, _, _, _, _, rfl, .ty _, .base (.int i), isi_int, q⟩
theorem w_isiN (q : Q (.bl false) H) : L2.rIsi K [.non, .ty "str"] H Q := ⟨_, _, _, _, _, rfl, .ty _, .base .non, isi_non, q⟩
theorem w_star (h : te σ H fun x H1 => ∃ p xs, x = V.ref p ∧ (SqT K H1 p xs ∨ SqL K H1 p xs) ∧ t σ H1 fun ys H2 => QA (xs ++ ys) H2) : StX.tStar K te t σ H QA := h
theorem w_revL (h : te σ H fun x H1 => ∃ a xs, x = .ref a ∧ SqL K H1 a xs ∧ ∀ p, H1 p = none → Q (.ref p) (upd H1 p (.lst xs.reverse))) : tRevL K te σ H Q := h
theorem w_isN0 (q : Q (.bl true) H) : (fun x y H Q => y = V.non ∧ Q (.bl (decide (x = V.non))) H) V.non V.non H Q := ⟨rfl, by rw [decide_eq_true rfl]; exact q⟩
end
section
open PySem.AutoSeq1
theorem ext_tup (l : Addr) (us : Array Value) (n : Nat) (b : Addr) (ws : Array Value) (n2 : Nat) (dd : Option Addr) (sl : Array (Option Value)) (h0 : ¬(!us.isEmpty && Builtin.List.listTooLong (us.size + ws.size)) = true) (h1 : us.size ≤ sizeLine) (h2 : us.size + ws.size ≤ sizeLine + 1) :
    Meets (Builtin.«list.extend» ⟨[.ref l, .ref b], []⟩) (fun _ R s => s.heap.get? l = some { cls := .type "list", dict := none, data := .seq us n, slots := #[] } ∧ s.heap.get? b = some { cls := .type "tuple", dict := dd, data := .seq ws n2, slots := sl } ∧
      R (.ok (.ret Value.none)) { s with heap := s.heap.update l (Obj.mapSeq fun x => x ++ ws), toks := s.toks }) :=
  .of_wp fun prog w A R s h => by
    obtain ⟨hp, g, d, tk, os⟩ := s
    obtain ⟨hl, hb, h⟩ := h
    have f1 := AutoSeq1.idx_int
    have f2 := AutoSeq1.sub_tuple_tuple
    have f3 := AutoSeq1.sub_list_list
    have f4 := AutoSeq1.sub_tuple_list
    have f5 := AutoSeq1.sub_list_tuple
    have hz' : (us ++ ws).size ≤ sizeLine + 1 := by rw [Array.size_append]; exact h2
    wp_walk using (wpAny_updateSeq hl rfl (hz := h1) (_hz' := hz')), wpAny_loadPart' hl, wpAny_loadPart' hb; exact ⟨_, rfl, h⟩
end
section
variable {X : Cx}
/-- l.extend(t): t a list that is tracked, or a tuple -/
def rExtT (K : PySem.W.Frag) : V → List V → Hp → VK → Prop := fun x vs H Q => ∃ l b xs zs, x = .ref l ∧ vs = [.ref b] ∧ H l = some (.lst xs) ∧ SqT K H b zs ∧ xs.length + zs.length ≤ sizeLine ∧ Q .non (upd H l (.lst (xs ++ zs)))
theorem mt_extT : MtM X "list.extend" (rExtT X.K) := by
  intro pins s σ H x vs v us Q I rx rv h
  obtain ⟨l, b, xs, zs, rfl, rfl, hH, hB, hz, q⟩ := h
  cases rx
  obtain ⟨u, rfl, ru⟩ := rv.one
  cases ru
  obtain ⟨z, its, n, r, hl, e⟩ := I.lstM hH
  obtain ⟨its2, r2, ⟨⟨cls, dd, data, sl⟩, e2, hc, n2, hd⟩, hs⟩ := I.tuple hB
  simp only at hc hd
  subst hc hd
  have hl2 := r2.length
  have hsz : its.toArray.size + its2.toArray.size ≤ sizeLine := by rw [List.size_toArray, List.size_toArray]; omega
  have hlong : ¬ (!its.toArray.isEmpty && Builtin.List.listTooLong (its.toArray.size + its2.toArray.size)) = true := by
    rw [notLongL hsz, Bool.and_false]
    exact Bool.false_ne_true
  refine call_meets F.slot_list_extend ⟨_, e, rfl⟩ F.entry_list_extend (F.args_list_extend_2 _ _)
    (ext_tup l its.toArray n b its2.toArray n2 dd sl hlong (by rw [List.size_toArray]; omega) (by omega)) ⟨e, e2, ?_⟩
  refine ⟨.non, _, I.lset (its' := its ++ its2) hH e (by simp) (r.append r2) ?_, rfl, q⟩
  rw [List.length_append]
  omega
theorem w_extT {K : PySem.W.Frag} {l b : Addr} {xs zs : List V} {H : Hp} {Q : VK} (h : H l = some (.lst xs)) (t : SqT K H b zs) (hz : xs.length + zs.length ≤ sizeLine) (q : Q .non (upd H l (.lst (xs ++ zs)))) : rExtT K (.ref l) [.ref b] H Q := ⟨l, b, xs, zs, rfl, rfl, h, t, hz, q⟩
end
section
variable {K : PySem.W.Frag} {σ : L2.St} {H : Hp} {te : TE} {vs : List Nat} {tt : TT} {g : TG}
/-- [.. for sign in text] -/
theorem w_lcS {l : List Nat} {R : Addr → Hp → Prop} (h : ∀ D, H D = none → ∃ Pv : Nat → Hp → Prop, Pv 0 (upd H D (.lst [])) ∧
      (∀ i c H2, l[i]? = some c → Pv i H2 → g (.str (S [c])) (wipe σ vs) H2 fun σ2 H2 => wipe σ2 vs = wipe σ vs ∧ tt σ2 H2 fun b H3 =>
        if b = true then te σ2 H3 fun y H4 => ∃ acc, H4 D = some (.lst acc) ∧ acc.length < sizeLine ∧ Pv (i + 1) (upd H4 D (.lst (acc ++ [y]))) else Pv (i + 1) H3) ∧ (∀ H2, Pv l.length H2 → R D H2)) :
    ∃ x, V.str (S l) = .str x ∧ ∀ D, H D = none → ∃ W : Nat → Nat → Hp → Prop, (∃ m, W 0 m (upd H D (.lst []))) ∧ ∀ i m H, W i m H →
      ((Its x).stop i H ∧ R D H) ∨ ((Its x).go i H ∧ ∃ Nx : Hp → Prop, (∀ H', Nx H' → ∃ m', m' < m ∧ W (i + 1) m' H') ∧ ∀ y H', (Its x).yld i H y H' → g y (wipe σ vs) H' fun σ2 H2 => wipe σ2 vs = wipe σ vs ∧ tt σ2 H2 fun b H3 =>
        if b = true then te σ2 H3 fun y H4 => ∃ acc, H4 D = some (.lst acc) ∧ acc.length < sizeLine ∧ Nx (upd H4 D (.lst (acc ++ [y]))) else Nx H3) := by
  refine ⟨S l, rfl, fun D hD => ?_⟩
  obtain ⟨Pv, h0, hs, hd⟩ := h D hD
  have el : (S l).cps.size = l.length := by rw [← S_list l]; simp
  have el2 : (S l).cps.toList = l := S_list l
  refine ⟨fun i m H => m = (S l).cps.size - i ∧ i ≤ (S l).cps.size ∧ Pv i H, ⟨_, rfl, Nat.zero_le _, h0⟩, ?_⟩
  rintro i m H ⟨rfl, hi, p⟩
  by_cases hlt : i < (S l).cps.size
  · refine .inr ⟨hlt, Pv (i + 1), fun H' p' => ⟨(S l).cps.size - (i + 1), by omega, rfl, hlt, p'⟩, fun v H' y => ?_⟩
    obtain ⟨e, c, hc, rfl⟩ := y
    subst e
    have hc2 : l[i]? = some c := by
      rw [← el2]
      simpa using hc
    exact hs i c _ hc2 p
  · have e : i = (S l).cps.size := by omega
    subst e
    rw [el] at p
    exact .inl ⟨Nat.le_refl _, hd H p⟩
/-- over a tuple -/
theorem w_lcTn {p : Addr} {xs : List V} {R : Addr → Hp → Prop} (hS : SqT K H p xs) (h : ∀ D, H D = none → ∃ Pv : Nat → Hp → Prop, Pv 0 (upd H D (.lst [])) ∧ (∀ i H2, i ≤ xs.length → Pv i H2 → SqT K H2 p xs) ∧
      (∀ i x H2, xs[i]? = some x → Pv i H2 → g x (wipe σ vs) H2 fun σ2 H2 => wipe σ2 vs = wipe σ vs ∧ tt σ2 H2 fun b H3 =>
        if b = true then te σ2 H3 fun y H4 => ∃ acc, H4 D = some (.lst acc) ∧ acc.length < sizeLine ∧ Pv (i + 1) (upd H4 D (.lst (acc ++ [y]))) else Pv (i + 1) H3) ∧ (∀ H2, Pv xs.length H2 → R D H2)) :
    ∃ a, V.ref p = .ref a ∧ (∃ xs, SqT K H a xs) ∧ ∀ D, H D = none → ∃ W : Nat → Nat → Hp → Prop, (∃ m, W 0 m (upd H D (.lst []))) ∧ ∀ i m H, W i m H →
      ((Itt K a).stop i H ∧ R D H) ∨ ((Itt K a).go i H ∧ ∃ Nx : Hp → Prop, (∀ H', Nx H' → ∃ m', m' < m ∧ W (i + 1) m' H') ∧ ∀ x H', (Itt K a).yld i H x H' → g x (wipe σ vs) H' fun σ2 H2 => wipe σ2 vs = wipe σ vs ∧ tt σ2 H2 fun b H3 =>
        if b = true then te σ2 H3 fun y H4 => ∃ acc, H4 D = some (.lst acc) ∧ acc.length < sizeLine ∧ Nx (upd H4 D (.lst (acc ++ [y]))) else Nx H3) := by
  refine ⟨p, rfl, ⟨xs, hS⟩, fun D hD => ?_⟩
  obtain ⟨Pv, h0, hl, hs, hd⟩ := h D hD
  exact lc_tup (Qd := fun H => R D H) Pv h0 hl hs hd
end
end Fw
end

section
-- part Fr
set_option Elab.async false
set_option linter.all false
set_option maxRecDepth 100000
set_option maxHeartbeats 4000000
/-! Fr: a list comprehension whose element may raise -/
namespace Fw
open PySem PySem.Spec PyProof.Rows L2
section
variable {M : Model} {A : Around} {E : Value → Shared → Prop} {s : Shared} {env : Env}
/-- the end of a block whose own env is ce -/
def endOf (M : Model) (A : Around) (E : Value → Shared → Prop) (use : Option (Value → Sem Unit)) (Q : Value → Shared → Prop) (acc : Value) (ce : Env) : Result → Shared → Prop
  | .ok _, t => match use with
    | none => ∃ m, t.heap.Ns ce.locals m ∧ ∀ g, Heap.SameBut ce.locals t.heap g → Q acc { t with heap := g }
    | some u => wpAny M A (u acc) (fun _ t' => ∃ m, t'.heap.Ns ce.locals m ∧ ∀ g, Heap.SameBut ce.locals t'.heap g → Q .none { t' with heap := g }) E t
  | .error x, t => ∃ m, t.heap.Ns ce.locals m ∧ ∀ g, Heap.SameBut ce.locals t.heap g → wpAny M A (passOn "comprehension.variables-let-go" x ce : Sem Value) (fun _ _ => False) E { t with heap := g }
theorem comp_run {e : Expr} {scope : Scope} {pos : Pos} {mk first : Sem Value} {c : Comprehension} {cs : List Comprehension} {cl : List (Str × Addr)} {use : Option (Value → Sem Unit)} {Q : Value → Shared → Prop}
    (h1 : clausesOf e = c :: cs) (h2 : ∀ x, foldedSetIterable c.iter env x = pure x) (h3 : closureFor scope env = pure cl) (hk : scope.kind = .function) (hn : ∀ x ∈ scope.names, x.2 = .local → scope.names.lookup x.1 = some .local)
    (h : wpAny M A first (fun x t1 => wpAny M A (pyIter x) (fun it t2 => wpAny M A mk (fun acc t3 => wpAny M A (newFunctionEnv scope env.globals cl [] env.qual none .none (some env)) (fun ce t4 =>
      codeAny M A (.compStart e 0 it acc { ce with scope := relabel scope env }) (endOf M A E use Q acc { ce with scope := relabel scope env }) t4) E t3) E t2) E t1) E s) :
    wpAny M A (comprehension e scope env pos mk false first use) Q E s := by
  unfold comprehension
  rw [h3, h1]
  refine wpAny_bind (wpAny_mono h (fun x t1 q1 => ?_) fun _ _ z => z)
  refine wpAny_bind (wpAny_standAt (wpAny_bind (wpAny_of_eq (h2 x) (wpAny_bind (wpAny_holding (wpAny_mono q1 (fun it t2 q2 => ?_) fun _ _ z => z))))))
  refine wpAny_standIf (wpAny_bind (wpAny_mono q2 (fun acc t3 q3 => ?_) fun _ _ z => z))
  refine wpAny_bind (wpAny_pure (wpAny_bind (wpAny_mono q3 (fun ce t4 q4 => ?_) fun _ _ z => z)))
  dsimp only
  have lk : ∀ {y}, y ∈ (scope.names.filter fun x => (x.2 == .local || x.2 == .cell) && x.1 != (".0" : Str)).reverse → y.2 = .local → Env.kindOf { ce with scope := relabel scope env } y.1 = some .local := fun {y} hy hl =>
    lookup_relabel_local (hn y (List.mem_filter.mp (List.mem_reverse.mp hy)).1 hl)
  have lk2 : ∀ y ∈ (scope.names.filter fun x => (x.2 == .local || x.2 == .cell) && x.1 != (".0" : Str)).reverse.drop 1 ++ (scope.names.filter fun x => (x.2 == .local || x.2 == .cell) && x.1 != (".0" : Str)).reverse.take 1,
      y.2 = .local → Env.kindOf { ce with scope := relabel scope env } y.1 = some .local := fun y hy hl => (List.mem_append.mp hy).elim (fun z => lk (List.mem_of_mem_drop z) hl) fun z => lk (List.mem_of_mem_take z) hl
  refine wpAny_holding (wpAny_bind (wpAny_attempt (wpAny_holding (wpAny_run (codeAny_mono q4 fun r t qr => ?_)))))
  cases r with
  | error x =>
    obtain ⟨m, hm, qr⟩ := qr
    exact wpAny_bind (wpAny_holding (wpAny_comp_letGo (cenv := { ce with scope := relabel scope env }) hk _ t m (fun y hy hl => lk hy hl) hm fun g _ _ sb => wpAny_mono (qr g sb) (fun _ _ z => z.elim) fun _ _ z => z))
  | ok f =>
    cases use with
    | none =>
      obtain ⟨m, hm, qr⟩ := qr
      exact wpAny_bind (wpAny_holding (wpAny_comp_letGo (cenv := { ce with scope := relabel scope env }) hk _ t m (fun y hy hl => lk hy hl) hm fun g _ _ sb => wpAny_pure (qr g sb)))
    | some u =>
      refine wpAny_bind (wpAny_rule (wpAny_bind (wpAny_holding (wpAny_mono qr (fun _ t' qr' => ?_) fun _ _ z => z))))
      obtain ⟨m, hm, qr'⟩ := qr'
      exact wpAny_bind (wpAny_comp_letGo (cenv := { ce with scope := relabel scope env }) hk _ t' m lk2 hm fun g _ _ sb => wpAny_pure (qr' g sb))
end
theorem frames_but {h h' B : Heap} {C : Addr} (k : ∀ b o, b ≠ C → h.get? b = some o → h'.get? b = some o) : ∀ {l : List Env}, h.FunFrames B l → C ∉ frs l → h'.FunFrames B l
  | [], _, _ => trivial
  | env :: l, x, n => by
    obtain ⟨x1, ⟨L, o, hf, hb, ho, hd⟩, x2⟩ := x
    have mL : L ∈ frs (env :: l) := List.mem_filterMap.mpr ⟨env, List.mem_cons_self, hf⟩
    refine ⟨x1, ⟨L, o, hf, hb, k L o (fun z => n (z ▸ mL)) ho, hd⟩, frames_but k x2 fun m => n ?_⟩
    obtain ⟨e, he, q⟩ := List.mem_filterMap.mp m
    exact List.mem_filterMap.mpr ⟨e, List.mem_cons_of_mem _ he, q⟩
theorem frames_base {h B B' : Heap} : ∀ {l : List Env}, h.FunFrames B l → (∀ b, B.get? b = none → B'.get? b = none) → h.FunFrames B' l
  | [], _, _ => trivial
  | env :: l, x, n => by
    obtain ⟨x1, ⟨L, o, hf, hb, ho, hd⟩, x2⟩ := x
    exact ⟨x1, ⟨L, o, hf, n L hb, ho, hd⟩, frames_base x2 n⟩
section
variable {X : Cx}
/-- what leaves a block by a call in it -/
def fromBlock (B : Cx) (X : Cx) (E : XK) : Value → Shared → Prop := fun u t => ∃ pins σ H s, Inv B pins σ H s ∧ L2.CX X.prog X.w X.stack H s E u t
theorem passes_block {B : Cx} {E : XK} (hs : B.stack = X.stack) : Passes (L2.CX X.prog X.w) (B.wish (fromBlock B X E)) E := by
  intro pins σ H s e t I c
  refine ⟨pins, σ, H, s, I.unwish, ?_⟩
  rw [← hs]
  exact c
theorem note_same {ce env : Env} (h : ce.frame = env.frame) (x : Value) : noteFrame x ce = noteFrame x env := by
  unfold noteFrame PySem.frameOf
  rw [h]
theorem block_raise {pins : List (Addr × Obj)} {σ : L2.St} {H3 : Hp} {s3 : Shared} {scope : Scope} {ce : Env} {fp : List Addr} {E : XK} {use : Option (Value → Sem Unit)} {Qf : Value → Shared → Prop} {acc u : Value} {t : Shared}
    (hs : X.stack = X.env :: X.outer) (hf : X.env.frame = some X.env.locals) (tk : Takes X (fun cls d _ H => E cls d H)) (I3 : Inv X pins σ H3 s3) (hcf : ce.frame = X.env.frame) (hcl : ce.locals = s3.heap.objs.size) (f3 : ∀ b ∈ fp, FpOk X pins H3 b)
    (r : fromBlock (X.blk s3 H3 scope ce fp) X E u t) : notedBy (model X.prog X.w) X.A ce (fun e t => endOf (model X.prog X.w) X.A X.xe use Qf acc ce (.error e) t) u t := by
  obtain ⟨pB, σB, HB, sB, IB, a, Bg, H', cls, d, rfl, fl, hok, ub, na, os, ag, hE⟩ := r
  have I7 : Inv X pins σ HB sB := I3.call' (ch := fp) IB.os IB.base IB.hok IB.bare fun b hb => ⟨(f3 b hb).2.2.2.1, (f3 b hb).2.1, (f3 b hb).2.2.2.2.1, (f3 b hb).2.2.2.2.2⟩
  have nC : HB ce.locals = none := IB.free
  obtain ⟨m, hn, _⟩ := IB.loc
  have hn : sB.heap.Ns ce.locals m := hn
  have fC : FpOk X pins HB s3.heap.objs.size := I3.fpOk (Nat.le_refl _) (by rw [← hcl]; exact nC)
  rw [← hcl] at fC
  generalize hC : ce.locals = C at nC hn fC
  have Cf : C ∉ frs X.stack := fun hm => by
    rcases List.mem_cons.mp (I3.stkSub C hm) with z | z
    · exact fC.2.1 z
    · exact fC.2.2.1 z
  obtain ⟨oC, _, _, eC, _⟩ := id hn
  have hn' : t.heap.Ns C m := hn.at' fun o e => fl.1 _ _ (ub.keep C o e nC Cf)
  have nC' : H' C = none := ub.free C oC eC nC
  -- the ground without C
  obtain ⟨B', b1, b2⟩ := restrict Bg fun b => decide (b ≠ C)
  have b3 : ∀ b o, B'.get? b = some o → Bg.get? b = some o ∧ b ≠ C := fun b o e => by
    by_cases z : b = C
    · rw [b2 b (by simp [z])] at e
      cases e
    · exact ⟨by rw [← b1 b (by simp [z])]; exact e, z⟩
  have b4 : ∀ b o, b ≠ C → Bg.get? b = some o → B'.get? b = some o := fun b o z e => by rw [b1 b (by simp [z])]; exact e
  have b5 : ∀ b, Bg.get? b = none → B'.get? b = none := fun b e => by
    cases q : B'.get? b with
    | none => rfl
    | some o => rw [(b3 b o q).1] at e; cases e
  have hfr : X.A.frames = some (X.env :: X.outer) := by rw [I3.ok.frames, hs]
  rw [hs] at fl
  unfold notedBy
  rw [note_same hcf]
  refine HandSPX.looks_onZ Zc.steady hfr hf fl fun h1 held up1 => ?_
  obtain ⟨k1, k2, k3, oe, vs, T, oT, ts, he, hz, hd, q1, nT, Ta, hT, hdT, q3⟩ := held
  refine ⟨m, ?_, fun g sb => ?_⟩
  · rw [hC]
    exact hn.at' fun o e => k1 _ _ (ub.keep C o e nC Cf)
  have bC := ub.keep C oC eC nC Cf
  have aC : a ≠ C := fun z => by rw [z, bC] at k2; cases k2
  have TC : T ≠ C := fun z => by rw [z, bC] at nT; cases nT
  have same : ∀ b, b ≠ C → g.get? b = h1.get? b := fun b hb => sb.2 b (by rw [hC]; exact hb)
  have held2 : HandSPX.HeldZ B' (X.env :: X.outer) a (Zc cls d) X.env.locals g := by
    refine ⟨fun b o e => ?_, b5 a k2, frames_base (frames_but (fun b o hb e => (same b hb).trans e) k3 (by rw [← hs]; exact Cf)) b5, oe, vs, T, oT, ts, (same a aC).trans he, hz, hd, q1, b5 T nT, Ta, (same T TC).trans hT, hdT, q3⟩
    obtain ⟨e1, e2⟩ := b3 b o e
    exact (same b e2).trans (k1 _ _ e1)
  unfold PySem.passOn
  refine wpAny_bind (wpAny_field ((same a aC).trans he) hd q1 ?_)
  rw [if_neg (show ¬ ((Value.ref T == Value.none) = true) from by simp)]
  have fin : wpAny (model X.prog X.w) X.A (setFlight (.ref a) ce.frame) (fun _ t4 => wpAny (model X.prog X.w) X.A (throw (.ref a) : Sem Value) (fun _ _ => False) X.xe t4) X.xe { t with heap := g } := by
    rw [hcf, hf]
    refine HandSPX.setFlight_onZ held2 fun h2 held3 up3 => wpAny_throw (tk _ _ ?_)
    obtain ⟨G, g1, g2⟩ := restrict t.heap fun b => (B'.get? b).isSome || decide (b ∈ frs X.stack)
    have og : ∀ b o, G.get? b = some o → t.heap.get? b = some o ∧ ((B'.get? b).isSome = true ∨ b ∈ frs X.stack) := fun b o e => by
      cases q : ((B'.get? b).isSome || decide (b ∈ frs X.stack)) with
      | true =>
        rw [g1 b q] at e
        exact ⟨e, by simpa [Bool.or_eq_true] using q⟩
      | false => rw [g2 b q] at e; cases e
    have gB : ∀ b o, B'.get? b = some o → G.get? b = some o := fun b o e => by
      rw [g1 b (by simp [e])]
      exact fl.1 b o (b3 b o e).1
    have gF : ∀ b, b ∈ frs X.stack → G.get? b = t.heap.get? b := fun b hb => g1 b (by simp [hb])
    have GC : ∀ b o, G.get? b = some o → b ≠ C := fun b o e z => by
      rcases (og b o e).2 with q | q
      · obtain ⟨o', q⟩ := Option.isSome_iff_exists.mp q
        exact (b3 b o' q).2 z
      · exact Cf (z ▸ q)
    refine ⟨a, B', { sB with heap := G, gens := t.gens, drawn := t.drawn, toks := t.toks }, pins, σ, H', cls, d, rfl, ?_, fun b o e hb => ?_, fun b o e hnf => ?_, .inr (.inr (by rw [hs]; exact held3)), na, os, ag, hE⟩
    · have slotF : ∀ b o, sB.heap.get? b = some o → b ∈ frs X.stack → ∃ sl, G.get? b = some { o with slots := sl } := fun b o e hb => by
        obtain ⟨sl, q⟩ := ub.slot b o e hb
        exact ⟨sl, by rw [gF b hb]; exact q⟩
      refine I7.call (ch := [C]) ⟨fun b o e n hb hc => gB b o (b4 b o (fun z => hc (by simp [z])) (ub.keep b o e n hb)), fun b o e n hb hc => slotF b o e hb, fun b o e n _ => ub.free b o e n, fun b o e hc => ?_, ub.tups, ub.frzs, ub.tbls⟩ (fun b o q => ?_) ag fun b hb => ?_
      · by_cases hb : b ∈ frs X.stack
        · obtain ⟨sl, q⟩ := slotF b o e hb
          exact ⟨_, q⟩
        · obtain ⟨o', q⟩ := ub.there b o e hb
          exact ⟨o', gB b o' (b4 b o' (fun z => hc (by simp [z])) q)⟩
      · refine (hok b o q).stay (fun c v hc e => gB c v (b4 c v (fun z => ?_) e)) (fun _ z => z) fun _ _ z => z
        rcases hc with hc | hc
        · rw [← hc, z, nC'] at q; cases q
        · rw [z, nC'] at hc; cases hc
      · rw [List.mem_singleton.mp hb]
        exact ⟨fC.2.2.2.1, fC.2.1, fC.2.2.2.2.1, fC.2.2.2.2.2⟩
    · obtain ⟨e', q⟩ := og b o e
      rcases q with q | q
      · obtain ⟨o', q⟩ := Option.isSome_iff_exists.mp q
        have z := fl.1 b o' (b3 b o' q).1
        rw [e'] at z
        cases z
        exact q
      · exact absurd q hb
    · obtain ⟨e', _⟩ := og b o e
      obtain ⟨sl, z1⟩ := up1 b o e' hnf
      have z2 := (same b (GC b o e)).trans z1
      obtain ⟨sl2, z3⟩ := up3 b _ z2 hnf
      exact ⟨sl2, z3⟩
  first
    | exact wpAny_bind (wpAny_pure (wpAny_bind fin))
    | exact wpAny_bind fin
/-- the comprehension's rule, its element one that may raise E -/
theorem lc_raise {pins : List (Addr × Obj)} {s : Shared} {σ : L2.St} {H : Hp} {Q : VK} {elt tg iter : Expr} {ifs : List Expr} {scope : Scope} {own : List (Str × Nat)} {pos pos' : Pos} {wi : TI} {g : TG} {tt : TT} {te : TE} {use : Option (Value → Sem Unit)} {Qf : Value → Shared → Prop} {E : XK}
    (hs : X.stack = X.env :: X.outer) (hf : X.env.frame = some X.env.locals) (tk : Takes X (fun cls d _ H => E cls d H)) (calm : X.calm = true) (hN : X.N.Nodup) (I : Inv X pins σ H s) (hi : PI X tg iter wi) (ok : BlkOk X.N X.env.scope scope own)
    (hg : ∀ (s : Shared) (H : Hp) (C : Addr) (cl : List (Str × Addr)) (fp : List Addr), PG (X.blk s H scope (compEnvC scope cl C X.env) fp) tg g)
    (ht : ∀ (s : Shared) (H : Hp) (C : Addr) (cl : List (Str × Addr)) (fp : List Addr), PTs (X.blk s H scope (compEnvC scope cl C X.env) fp) ifs tt)
    (he : ∀ (s : Shared) (H : Hp) (C : Addr) (cl : List (Str × Addr)) (fp : List Addr), PE ((X.blk s H scope (compEnvC scope cl C X.env) fp).wish (fromBlock (X.blk s H scope (compEnvC scope cl C X.env) fp) X E)) elt te)
    (hfs : ∀ x, foldedSetIterable iter X.env x = pure x) (h : tLc wi g tt te (own.map (·.2)) σ H Q)
    (hend : ∀ D ce t m H', ce.frame = X.env.frame → Inv X pins σ H' t → Q (.ref D) H' → t.heap.Ns ce.locals m → FpOk X pins H' ce.locals → endOf (model X.prog X.w) X.A X.xe use Qf (.ref D) ce (.ok .next) t) :
    wpAny (model X.prog X.w) X.A (comprehension (.ListComp elt [⟨tg, iter, ifs, 0⟩] scope pos) scope X.env pos' (newList []) false (eval iter X.env) use) Qf X.xe s := by
  have free : ∀ z ∈ scope.names, z.2 = .free → ∃ c, X.env.cells.lookup z.1 = some c := fun z hz e => (ok.free z hz e).elim (fun k => I.ok.has _ (.inl k)) fun k => I.ok.has _ (.inr k)
  refine comp_run rfl hfs (closure_ok free) ok.kind (fun z hz e => by rw [ok.uniq z hz, e]) (thn (hi.run pins s σ H _ I h) fun xv s1 hx => thn hx fun itv s2 ⟨it, fp, tn, J, H2, e, I2, T, st2, f2, q⟩ => ?_)
  subst e
  refine wpAny_newObj_type (newEnv_comp ?_) (show 0 ≤ sizeLine by decide)
  generalize hD : s2.heap.objs.size = D
  have hDn : H2 D = none := I2.hok.fresh (Nat.le_of_eq hD)
  obtain ⟨W, ⟨m0, w0⟩, turn⟩ := q D hDn
  generalize hs3 : ({ s2 with heap := s2.heap.push { cls := .type "list", data := .seq ([] : List Value).toArray } } : Shared) = s3
  have h3 : s3.heap = s2.heap.push { cls := .type "list", data := .seq ([] : List Value).toArray } := by rw [← hs3]
  have I3 : Inv X pins σ (upd H2 D (.lst [])) s3 := by
    rw [← hs3]
    exact I2.laid (t' := s2.toks) (fun b o e => Heap.get?_push_of_some _ e) (Nat.le_of_eq hD) ⟨Nat.zero_le _, [], 0, .nil, by rw [← hD]; exact Heap.get?_push_size _ rfl⟩
  have f3 : ∀ b ∈ fp, FpOk X pins (upd H2 D (.lst [])) b ∧ b < s3.heap.objs.size := fun b hb => by
    obtain ⟨o, e, _⟩ := T.obj _ _ st2 b hb
    have lt := Heap.lt_size e
    exact ⟨⟨by rw [upd_ne (by rw [← hD]; exact Nat.ne_of_lt lt)]; exact (f2 b hb).1, (f2 b hb).2⟩, by rw [h3, Heap.size_push]; exact Nat.lt_succ_of_lt lt⟩
  have st3 : tn 0 s3.heap := T.keep _ _ _ st2 fun b _ o e => by rw [h3]; exact Heap.get?_push_of_some _ e
  have I4 := block_start I3 ok hN f3
  have pg := hg s3 (upd H2 D (.lst [])) s3.heap.objs.size (cellsFrom (s3.heap.objs.size + 1) scope.names (cloFrom X.env.cells scope.names [])) fp
  have pt := ht s3 (upd H2 D (.lst [])) s3.heap.objs.size (cellsFrom (s3.heap.objs.size + 1) scope.names (cloFrom X.env.cells scope.names [])) fp
  have pe := he s3 (upd H2 D (.lst [])) s3.heap.objs.size (cellsFrom (s3.heap.objs.size + 1) scope.names (cloFrom X.env.cells scope.names [])) fp
  show codeAny _ _ (.compStart (.ListComp elt [⟨tg, iter, ifs, 0⟩] scope pos) 0 (.ref it) (.ref D) (compEnvC scope (cellsFrom (s3.heap.objs.size + 1) scope.names (cloFrom X.env.cells scope.names [])) s3.heap.objs.size X.env))
    (endOf (model X.prog X.w) X.A X.xe use Qf (.ref D) (compEnvC scope (cellsFrom (s3.heap.objs.size + 1) scope.names (cloFrom X.env.cells scope.names [])) s3.heap.objs.size X.env)) { s3 with heap := pushCells (s3.heap.push { cls := .type "dict", data := .dict #[] }) scope.names }
  have nfp : ∀ b ∈ fp, (upd H2 D (.lst [])) b = none := fun b hb => (f3 b hb).1.1
  generalize hce : compEnvC scope (cellsFrom (s3.heap.objs.size + 1) scope.names (cloFrom X.env.cells scope.names [])) s3.heap.objs.size X.env = ce at I4 pg pt pe ⊢
  have cL : ce.locals = s3.heap.objs.size := by subst hce; rfl
  have cF : ce.frame = X.env.frame := by subst hce; rfl
  generalize hH3 : upd H2 D (.lst []) = H3 at I3 I4 pg pt pe w0 nfp f3
  generalize hs4 : ({ s3 with heap := pushCells (s3.heap.push { cls := .type "dict", data := .dict #[] }) scope.names } : Shared) = s4 at I4 ⊢
  have st4 : tn 0 s4.heap := T.keep _ _ _ st3 fun b _ o e => by rw [← hs4]; exact pushCells_keeps _ _ _ _ (Heap.get?_push_of_some _ e)
  have stat : ∀ {σ' : L2.St} {H' : Hp} {t : Shared}, Inv (X.blk s3 H3 scope ce fp) [] σ' H' t → (∀ b ∈ fp, H' b = none) → ∀ b ∈ fp, FpOk (X.blk s3 H3 scope ce fp) [] H' b := fun {σ' H' t} J hn b hb =>
    ⟨hn b hb, (J.ok.exf b hb).1, J.ok.exfs b hb, .inl hb, fun x c e => (J.ok.exf b hb).2 x c e, fun p hp => absurd (show p ∈ ([] : List (Addr × Obj)) ++ [] from hp) (by simp)⟩
  have back : ∀ {pB : List (Addr × Obj)} {σB : L2.St} {H' : Hp} {t : Shared}, Inv (X.blk s3 H3 scope ce fp) pB σB H' t → Inv X pins σ H' t := fun {pB σB H' t} J =>
    I3.call' (ch := fp) J.os J.base J.hok J.bare fun b hb => ⟨(f3 b hb).1.2.2.2.1, (f3 b hb).1.2.1, (f3 b hb).1.2.2.2.2.1, (f3 b hb).1.2.2.2.2.2⟩
  have loop : codeAny (model X.prog X.w) X.A (.compLoop (.ListComp elt [⟨tg, iter, ifs, 0⟩] scope pos) 0 (.ref it) (.ref D) ce) (endOf (model X.prog X.w) X.A X.xe use Qf (.ref D) ce) s4 := by
    refine compLoop_any (fun n t => ∃ i H', Inv (X.blk s3 H3 scope ce fp) [] (wipe σ (own.map (·.2))) H' t ∧ tn i t.heap ∧ (∀ b ∈ fp, H' b = none) ∧ W i n H') ?_ m0 ⟨0, H3, I4, st4, nfp, w0⟩
    rintro n s5 ⟨i, H5, I5, st5, n5, w5⟩
    rcases turn i n H5 w5 with ⟨stop, qq⟩ | ⟨go, Nx, hNx, step⟩
    · refine thnF (T.done (X.blk s3 H3 scope ce fp) rfl rfl rfl calm i [] s5 _ H5 (fun _ _ => False) I5 (stat I5 n5) st5 stop) fun r s6 ⟨hr, I6⟩ => ?_
      subst hr
      have z : H5 ce.locals = none := I6.free
      obtain ⟨m, hn, _⟩ := I6.loc
      exact hend D ce s6 m H5 cF (back I6) qq hn (by rw [cL] at z ⊢; exact I3.fpOk (Nat.le_refl _) z)
    · refine thnF (T.item (X.blk s3 H3 scope ce fp) rfl rfl rfl calm i [] s5 _ H5 (fun _ _ => False) I5 (stat I5 n5) st5 go) fun r s6 ⟨u, hr, h6⟩ => ?_
      subst hr
      refine thnF h6 fun _ s7 ⟨x, H7, I7, r7, y7, st7, n7⟩ => ?_
      refine thnF (pg.run _ s7 _ H7 x u _ (I7.pinned (stat I7 n7) (T.obj _ _ st7)) r7 (step x H7 y7)) fun _ s8 ⟨σ8, H8, I8, hw8, q8⟩ => ?_
      refine thnF (pt.run _ s8 σ8 H8 _ I8 q8) fun b s9 ⟨H9, I9, q9⟩ => ?_
      have fin : ∀ {t : Shared} {H' : Hp}, Inv (X.blk s3 H3 scope ce fp) ([] ++ pinsAt fp s7.heap) σ8 H' t → Nx H' → ∃ m, m < n ∧ ∃ i H', Inv (X.blk s3 H3 scope ce fp) [] (wipe σ (own.map (·.2))) H' t ∧ tn i t.heap ∧ (∀ b ∈ fp, H' b = none) ∧ W i m H' := fun {t H'} J nx => by
        obtain ⟨m', hm, w'⟩ := hNx H' nx
        have pin : ∀ b ∈ fp, ∀ o, s7.heap.get? b = some o → t.heap.get? b = some o ∧ H' b = none := fun b hb o e =>
          have z := J.pin (b, o) (List.mem_append_right _ (List.mem_append_right _ (mem_pinsAt hb e)))
          ⟨z.1, z.2.1⟩
        refine ⟨m', hm, i + 1, H', (J.unpinned (pins := [])).weak (by rw [← hw8, wipe_length]) (fun j v e => by rw [← hw8] at e; exact (wipe_some e).1), T.keep _ _ _ st7 fun b hb o e => (pin b hb o e).1, fun b hb => ?_, w'⟩
        obtain ⟨o, e, _⟩ := T.obj _ _ st7 b hb
        exact (pin b hb o e).2
      cases b with
      | true =>
        simp only [if_true] at q9 ⊢
        refine wpAny_mono (pe.run _ s9 σ8 H9 _ (I9.wish _) q9) (fun z s10 ⟨yv, H10, I10, r10, acc, hD10, hz10, nx⟩ => ?_) fun u t r => block_raise hs hf tk I3 cF cL (fun b hb => (f3 b hb).1) r
        exact app_ok (X := X.blk s3 H3 scope ce fp) I10.unwish hD10 hz10 r10 fun s11 I11 => fin I11 nx
      | false =>
        simp only [Bool.false_eq_true, if_false] at q9 ⊢
        exact fin I9 q9
  exact codeAny_compStart_list loop (T.self X.A 0 _ _ _ st4 loop)
theorem pe_lcR {elt tg iter : Expr} {ifs : List Expr} {scope : Scope} {own : List (Str × Nat)} {pos : Pos} {wi : TI} {g : TG} {tt : TT} {te : TE} {E : XK} (hs : X.stack = X.env :: X.outer) (hf : X.env.frame = some X.env.locals) (tk : Takes X (fun cls d _ H => E cls d H)) (calm : X.calm = true) (hN : X.N.Nodup)
    (hi : PI X tg iter wi) (ok : BlkOk X.N X.env.scope scope own) (hg : ∀ (s : Shared) (H : Hp) (C : Addr) (cl : List (Str × Addr)) (fp : List Addr), PG (X.blk s H scope (compEnvC scope cl C X.env) fp) tg g)
    (ht : ∀ (s : Shared) (H : Hp) (C : Addr) (cl : List (Str × Addr)) (fp : List Addr), PTs (X.blk s H scope (compEnvC scope cl C X.env) fp) ifs tt)
    (he : ∀ (s : Shared) (H : Hp) (C : Addr) (cl : List (Str × Addr)) (fp : List Addr), PE ((X.blk s H scope (compEnvC scope cl C X.env) fp).wish (fromBlock (X.blk s H scope (compEnvC scope cl C X.env) fp) X E)) elt te)
    (hfs : ∀ x, foldedSetIterable iter X.env x = pure x := by intro _; rfl) : PE X (.ListComp elt [⟨tg, iter, ifs, 0⟩] scope pos) (tLc wi g tt te (own.map (·.2))) := by
  refine ⟨fun pins s σ H Q I h => ?_⟩
  rw [eval_ListComp]
  refine lc_raise hs hf tk calm hN I hi ok hg ht he hfs h fun D ce t m H' _ J q hn f => ⟨m, hn, fun g sb => ?_⟩
  exact ⟨.ref D, H', J.turned (t' := t.toks) (fun b o hb e => (sb.2 b hb).trans e) f.1 f.2.1 f.2.2.2.1 f.2.2.2.2.1 f.2.2.2.2.2, rfl, q⟩
/-- name = [..], the name a local -/
theorem ps_setLcR {i : Nat} {y : Str} {py : Pos} {elt tg iter : Expr} {ifs : List Expr} {scope : Scope} {own : List (Str × Nat)} {pos spos : Pos} {wi : TI} {g : TG} {tt : TT} {te : TE} {E : XK} (hs : X.stack = X.env :: X.outer) (hf : X.env.frame = some X.env.locals) (tk : Takes X (fun cls d _ H => E cls d H)) (calm : X.calm = true) (hN : X.N.Nodup)
    (hy : X.N[i]? = some y) (hyl : X.env.scope.names.lookup y = some .local) (hsw : swapsWith (.ListComp elt [⟨tg, iter, ifs, 0⟩] scope pos) (some (.Name y py)) spos.line X.env = pure true)
    (hi : PI X tg iter wi) (ok : BlkOk X.N X.env.scope scope own) (hg : ∀ (s : Shared) (H : Hp) (C : Addr) (cl : List (Str × Addr)) (fp : List Addr), PG (X.blk s H scope (compEnvC scope cl C X.env) fp) tg g)
    (ht : ∀ (s : Shared) (H : Hp) (C : Addr) (cl : List (Str × Addr)) (fp : List Addr), PTs (X.blk s H scope (compEnvC scope cl C X.env) fp) ifs tt)
    (he : ∀ (s : Shared) (H : Hp) (C : Addr) (cl : List (Str × Addr)) (fp : List Addr), PE ((X.blk s H scope (compEnvC scope cl C X.env) fp).wish (fromBlock (X.blk s H scope (compEnvC scope cl C X.env) fp) X E)) elt te)
    (hfs : ∀ x, foldedSetIterable iter X.env x = pure x := by intro _; rfl) : PS X (.Assign [.Name y py] (.ListComp elt [⟨tg, iter, ifs, 0⟩] scope pos) spos) (tAsg (tLc wi g tt te (own.map (·.2))) (gName i)) := by
  refine ⟨fun pins s σ H D I h => ?_⟩
  rw [exec_Assign_Name_used _ _ _ _ hsw]
  refine wpAny_bind (wpAny_standAt (wpAny_bind ?_))
  have h : tLc wi g tt te (own.map (·.2)) σ H (fun x H1 => gName i x σ H1 D.nx) := h
  show wpAny _ X.A (do
    let _ ← comprehension (.ListComp elt [⟨tg, iter, ifs, 0⟩] scope pos) scope X.env (firstIterPos [⟨tg, iter, ifs, 0⟩] pos) (newList []) false (eval iter X.env) (some (assign (.Name y py) X.env))) _ _ s
  refine wpAny_bind (thn (lc_raise (Qf := fun _ t => SP X pins D .next t) hs hf tk calm hN I hi ok hg ht he hfs h fun L ce t m H' _ J q hn f => ?_) fun _ t hq => wpAny_pure (wpAny_pure hq))
  show wpAny _ _ (assign (.Name y py) X.env (.ref L)) _ _ _
  refine wpAny_assign_Name (store_ok2 (v := V.ref L) J hN hy (.inl hyl) rfl (fun s2 I2 ⟨a, sb, ha⟩ => ?_) (.inr hyl))
  have haC : ce.locals ≠ a := ha.elim (fun z => by rw [z]; exact f.2.1) fun z e => f.2.2.2.2.1 y a z e.symm
  exact ⟨m, hn.sameBut sb haC, fun h3 sb3 => ⟨_, H', I2.turned (t' := s2.toks) (fun b o hb e => (sb3.2 b hb).trans e) f.1 f.2.1 f.2.2.2.1 f.2.2.2.2.1 f.2.2.2.2.2, q⟩⟩
end
end Fw
end

section
-- part Ft
set_option Elab.async false
set_option linter.all false
set_option maxRecDepth 100000
set_option maxHeartbeats 2000000
/-! Ft: a def that tells which of two own errors came -/
namespace Fw
open PySem PySem.Spec PyProof.Rows L2 LamX
section
variable {X : Cx}
theorem told2_gives {Ng : List Str} {x a e e2 q ret ret2 : Str} {sg : Scope} {g CS CS2 : Addr} {cdg : Value} {j j2 : Nat} {p1 p2 p3 p4 p5 p6 p7 p8 q4 q5 q6 q7 : Pos} (hge : sg.names.lookup e = some .globalImplicit) (hme : X.mg e = some (.ref CS)) (hde : (e == ("__debug__" : Str)) = false)
    (hge2 : sg.names.lookup e2 = some .globalImplicit) (hme2 : X.mg e2 = some (.ref CS2)) (hde2 : (e2 == ("__debug__" : Str)) = false) (h0 : ∀ f : Addr, (L2.start Ng [V.ref f])[0]? = some (some (V.ref f))) :
    GivesTo X Ng x sg g cdg [.Try [.Return (some (.Call (.Name a p1) [] [] p2)) p3]
      [.ExceptHandler (some (.Name e p4)) none [.Return (some (.Constant (.str ret) j p5)) p6] p7, .ExceptHandler (some (.Name e2 q4)) none [.Return (some (.Constant (.str ret2) j2 q5)) q6] q7] [] [] p8] a q (TTold X.K CS ret) := by
  intro f c' s H Q tl act hc h
  have hgl : Gl (cxOf C8.CX0 X.prog X.w X.K X.mg X.base Ng x sg g cdg X.A X.stack s H C8.E0).nox e := hge
  have hgl2 : Gl (cxOf C8.CX0 X.prog X.w X.K X.mg X.base Ng x sg g cdg X.A X.stack s H C8.E0).nox e2 := hge2
  refine ⟨_, pss_one (ps_try_many (X := (cxOf C8.CX0 X.prog X.w X.K X.mg X.base Ng x sg g cdg X.A X.stack s H C8.E0).nox)
      (tb := fun W D σ H => ∃ Ech : XK, (∀ cls d σ' H', Ech cls d H' → W cls d σ' H') ∧ σ[0]? = some (some (.ref f)) ∧ H c' = some (CodeO c' q) ∧ tl Ech H D.rt)
      rfl rfl LamX.takes0 (fun W pn xe tk _ => ?_)
      (.cons (c := .ref CS) ⟨hgl, hde, .inl hme⟩ (fun a oe cls d pn _ _ => pss_one (ps_ret pe_str)) (.cons (c := .ref CS2) ⟨hgl2, hde2, .inl hme2⟩ (fun a oe cls d pn _ _ => pss_one (ps_ret pe_str)) .nil))), ?_⟩
  · refine ⟨fun pins s' σ H' D I h' => ?_⟩
    obtain ⟨Ech, hW, h1, h2, h3⟩ := h'
    have hp := act W pn xe Ech p1 p2 tk hW
    have hq := pss_one (ps_ret (pos := p3) hp)
    exact hq.run pins s' σ H' D I ⟨h1, h2, h3⟩
  · exact ⟨fun cls _ H' => ∃ b, PySem.W.exmOne X.K cls (.ref CS) = some b ∧ (b = true → Q (.str ret) H') ∧ (b = false → False), fun cls d σ' H' ⟨b, e1, e2, e3⟩ => ⟨b, e1, fun hb a _ => e2 hb, fun hb => (e3 hb).elim⟩, h0 f, hc, h⟩
theorem pe_fldK (K : PySem.W.Frag) {e : Expr} {f : Str} {pos : Pos} {ta : TE} (he : PE X e ta) (hb : attributeBase e f X.env (eval e X.env) = eval e X.env) (hK : X.K = K) : PE X (.Attribute e f pos) (tFld K ta f) := by
  subst hK
  exact pe_fld he hb
end
section
variable {σ : L2.St} {H : Hp} {Q : VK} {ta tb : TE}
theorem w_andV (h : ta σ H fun x H1 => ∃ c, x = .bl c ∧ if c = true then tb σ H1 Q else Q (.bl false) H1) : tAndV ta tb σ H Q := h
theorem w_orV (h : ta σ H fun x H1 => ∃ c, x = .bl c ∧ if c = true then Q (.bl true) H1 else tb σ H1 Q) : tOrV ta tb σ H Q := h
theorem w_notV (h : ta σ H fun x H1 => ∃ c, x = .bl c ∧ Q (.bl (!c)) H1) : tNotV ta σ H Q := h
end
end Fw
end

section
-- part Fz3
set_option Elab.async false
set_option linter.all false
set_option maxRecDepth 100000
set_option maxHeartbeats 2000000
/-! Fz3: zip of two tuples and a list; len(range(a, b, c)) -/
namespace Fw
open PySem PySem.Spec PyProof.Rows L2
/-- two tuples and a list as they stand at each turn, the items in new tuples -/
def Itz3 (K : PySem.W.Frag) (a b c : Addr) : It :=
  ⟨fun i H => ∃ (xs ys zs : List V) (x y z : V), SqT K H a xs ∧ SqT K H b ys ∧ SqL K H c zs ∧ xs[i]? = some x ∧ ys[i]? = some y ∧ zs[i]? = some z,
    fun i H v H' => ∃ T x y z, v = .ref T ∧ H T = none ∧ H' = upd H T (.tup [x, y, z]) ∧ (∀ xs, SqT K H a xs → xs[i]? = some x) ∧ (∀ ys, SqT K H b ys → ys[i]? = some y) ∧ ∀ zs, SqL K H c zs → zs[i]? = some z,
    fun i H => ∃ xs ys zs : List V, SqT K H a xs ∧ SqT K H b ys ∧ SqL K H c zs ∧ i = xs.length ∧ xs.length = ys.length ∧ ys.length = zs.length⟩
theorem sub6 {z TI TO i1 i2 i3 d : Addr} (h : d ∉ [z, TI, TO, i1, i2, i3]) : d ∉ [z, TO, i1, i2, i3] := fun q => h (by
  simp only [List.mem_cons, List.not_mem_nil, or_false] at q ⊢
  rcases q with q | q | q | q | q <;> simp [q])
theorem turn_zip3 {P : Program} {w : World} {K : PySem.W.Frag} {elts : List Expr} {kk : Nat} {tpos : Pos} {a b c z TI TO i1 i2 i3 : Addr} (S : ZipSep3 z TI TO i1 i2 i3 [i1, a] [i2, b] [i3, c]) (na : a ≠ i1) (nb : b ≠ i2) (nc : c ≠ i3) :
    Turn P w K (.Tuple elts kk tpos) (Itz3 K a b c) [z, TI, TO, i1, i2, i3] z (fun i h => IsZip h z TI TO .none ∧ IsTupOf3 h TI (.ref i1) (.ref i2) (.ref i3) ∧ (∃ x y u, IsTupOf3 h TO x y u) ∧ h.IsTupleIter i1 a i ∧ h.IsTupleIter i2 b i ∧ h.IsListIter i3 c i) where
  mem := by simp
  obj := fun i h st d hd => by
    obtain ⟨hz, hTI, ⟨x, y, u, hTO⟩, ⟨o1, e1, _, d1⟩, ⟨o2, e2, _, d2⟩, ⟨o3, e3, _, d3⟩⟩ := st
    have e' : d = z ∨ d = TI ∨ d = TO ∨ d = i1 ∨ d = i2 ∨ d = i3 := by simpa using hd
    rcases e' with q | q | q | q | q | q
    · rw [q]; exact ⟨_, hz, fun v q => nomatch q⟩
    · rw [q]; exact ⟨_, hTI, fun v q => nomatch q⟩
    · rw [q]; exact ⟨_, hTO, fun v q => nomatch q⟩
    · rw [q]; exact ⟨o1, e1, fun v q => by rw [d1] at q; cases q⟩
    · rw [q]; exact ⟨o2, e2, fun v q => by rw [d2] at q; cases q⟩
    · rw [q]; exact ⟨o3, e3, fun v q => by rw [d3] at q; cases q⟩
  keep := fun i h h' st k => by
    obtain ⟨hz, hTI, ⟨x, y, u, hTO⟩, h1, h2, h3⟩ := st
    exact ⟨k z (by simp) _ hz, k TI (by simp) _ hTI, ⟨x, y, u, k TO (by simp) _ hTO⟩, h1.at fun o q => k i1 (by simp) o q, h2.at fun o q => k i2 (by simp) o q, h3.at fun o q => k i3 (by simp) o q⟩
  item := by
    intro X hP hw hK hc i pins s σ H E I hf st hg
    subst hP hw hK
    obtain ⟨hz, hTI, hTO, h1, h2, h3⟩ := st
    obtain ⟨xs, ys, zs, x, y, v, hqx, hqy, hqz, hx, hy, hv⟩ := hg
    obtain ⟨its, rv, p, _⟩ := I.tuple hqx
    obtain ⟨its2, rv2, p2, _⟩ := I.tuple hqy
    obtain ⟨its3, rv3, p3, _⟩ := I.list hqz
    obtain ⟨u, hu, ru⟩ := rv.get hx
    obtain ⟨u2, hu2, ru2⟩ := rv2.get hy
    obtain ⟨u3, hu3, ru3⟩ := rv3.get hv
    have hh : X.A.in1.handled = none := I.ok.hd hc
    have W := WalksT.zipD3 (prog := X.prog) (w := X.w) (A := X.A) S (Draws.tuple hh i1 a na its.toArray) (Draws.tuple hh i2 b nb its2.toArray) (Draws.list hh i3 c nc its3.toArray)
    have l1 : i < its.length := (List.getElem?_eq_some_iff.mp hu).1
    have l2 : i < its2.length := (List.getElem?_eq_some_iff.mp hu2).1
    have l3 : i < its3.length := (List.getElem?_eq_some_iff.mp hu3).1
    refine W.item i s _ _ (by simp only [List.size_toArray]; omega) ⟨hz, hTI, hTO, ⟨h1, p⟩, ⟨h2, p2⟩, ⟨h3, p3.isList⟩⟩ fun T vals h' tk hP hsz hT hmid hk => ?_
    refine ⟨_, rfl, W.go _ _ _ i T { s with heap := h', toks := tk } _ _ hmid fun h'' st'' hk'' => ?_⟩
    obtain ⟨x1, x2, x3, q1, q2, q3, rfl⟩ := hP
    have q1' : its[i]? = some x1 := by simpa using q1
    have q2' : its2[i]? = some x2 := by simpa using q2
    have q3' : its3[i]? = some x3 := by simpa using q3
    rw [hu] at q1'
    rw [hu2] at q2'
    rw [hu3] at q3'
    cases q1'
    cases q2'
    cases q3'
    have hT2 : h''.IsTuple T #[u, u2, u3] := hT.at fun o e => hk'' T o (W.apart i T h' hmid) e
    have new : ObjOk X.prog X.w (upd H T (.tup [x, y, v])) h'' T (.tup [x, y, v]) := ⟨by show 3 ≤ sizeLine; decide, [u, u2, u3], .cons ru (.cons ru2 (.cons ru3 .nil)), hT2⟩
    have nin : ∀ d, d ∉ [z, TI, TO, i1, i2, i3] → d ∉ [z, TO, i1, i2, i3] := fun d hd => sub6 hd
    have I1 : Inv X pins σ (upd H T (.tup [x, y, v])) { s with heap := h'', toks := tk } :=
      I.turnedNew (t' := tk) (ch := [z, TI, TO, i1, i2, i3]) (fun d o hb q => hk'' d o (nin d hb) (hk d o (nin d hb) q)) hf hsz new
    refine ⟨.ref T, _, I1, rfl, ⟨_, x, y, v, rfl, I.hok.fresh hsz, rfl, fun l hl => by rw [I.tuple_inj hl hqx]; exact hx, fun l hl => by rw [I.tuple_inj hl hqy]; exact hy, fun l hl => by rw [I.list_inj hl hqz]; exact hv⟩, ⟨st''.1, st''.2.1, st''.2.2.1, st''.2.2.2.1.1, st''.2.2.2.2.1.1, st''.2.2.2.2.2.1⟩, fun d hd => ?_⟩
    have hlt : d < s.heap.objs.size := by
      have e' : d = z ∨ d = TI ∨ d = TO ∨ d = i1 ∨ d = i2 ∨ d = i3 := by simpa using hd
      obtain ⟨a1, a2, a3, hTO⟩ := hTO
      rcases e' with q | q | q | q | q | q
      · rw [q]; exact Heap.lt_size hz
      · rw [q]; exact Heap.lt_size hTI
      · rw [q]; exact Heap.lt_size hTO
      · rw [q]; obtain ⟨_, e1, _⟩ := h1; exact Heap.lt_size e1
      · rw [q]; obtain ⟨_, e2, _⟩ := h2; exact Heap.lt_size e2
      · rw [q]; obtain ⟨_, e3, _⟩ := h3; exact Heap.lt_size e3
    rw [upd_ne (Nat.ne_of_lt (Nat.lt_of_lt_of_le hlt hsz))]
    exact (hf d hd).1
  done := by
    intro X hP hw hK hc i pins s σ H E I hf st hg
    subst hP hw hK
    obtain ⟨hz, hTI, hTO, h1, h2, h3⟩ := st
    obtain ⟨xs, ys, zs, hqx, hqy, hqz, rfl, e1, e2⟩ := hg
    obtain ⟨its, rv, p, _⟩ := I.tuple hqx
    obtain ⟨its2, rv2, p2, _⟩ := I.tuple hqy
    obtain ⟨its3, rv3, p3, _⟩ := I.list hqz
    have hh : X.A.in1.handled = none := I.ok.hd hc
    have l1 := rv.length
    have l2 := rv2.length
    have l3 := rv3.length
    have W := WalksT.zipD3 (prog := X.prog) (w := X.w) (A := X.A) S (Draws.tuple hh i1 a na its.toArray) (Draws.tuple hh i2 b nb its2.toArray) (Draws.list hh i3 c nc its3.toArray)
    have en : min (min its.toArray.size its2.toArray.size) its3.toArray.size = xs.length := by simp only [List.size_toArray]; omega
    refine W.done s _ _ (by rw [en]; exact ⟨hz, hTI, hTO, ⟨h1, p⟩, ⟨h2, p2⟩, ⟨h3, p3.isList⟩⟩) fun h' tk hk => ⟨rfl, I.turnedL (t' := tk) (ch := [z, TI, TO, i1, i2, i3]) (fun d o hb q => hk d o (sub6 hb) q) hf⟩
  self := fun A i s Q E st h => wpAny_pyIter_zip st.1 h
def iZip3 (K : PySem.W.Frag) (ta : TA) : TI := fun σ H R => ta σ H fun vs H1 => ∃ a b c xs ys zs, vs = [.ref a, .ref b, .ref c] ∧ SqT K H1 a xs ∧ SqT K H1 b ys ∧ SqL K H1 c zs ∧ R (Itz3 K a b c) H1
theorem pi_zip3 {X : Cx} {e e2 e3 : Expr} {ta : TA} {p pos tpos : Pos} {elts : List Expr} {kk : Nat} (hg : Gl X "zip") (hm : X.mg "zip" = none) (ha : PA X [e, e2, e3] ta)
    (hs : starEach [e, e2, e3] X.env = (false, eval e X.env) :: starEach [e2, e3] X.env := by rfl) (hpl : (backTo pos (starEach [e2, e3] X.env)).any (·.1) = false := by rfl) :
    PI X (.Tuple elts kk tpos) (.Call (.Name "zip" p) [e, e2, e3] [] pos) (iZip3 X.K ta) := by
  refine ⟨fun pins s σ H R I h => ?_⟩
  refine Call_ (ld_blt I hg hm PyProof.Rows.boot_zip (PyProof.Rows.callWith_type1 (thn (ha.run pos pins s σ H _ I h) fun us s1 ⟨vs, H1, I1, r1, q1⟩ => ?_) hs hpl))
  obtain ⟨a, b, c, xs, ys, zs, ex, hqx, hqy, hqz, q⟩ := q1
  subst ex
  cases r1 with
  | cons r rr =>
    cases rr with
    | cons r' rr =>
      cases rr with
      | cons r'' rr =>
        cases rr
        cases r
        cases r'
        cases r''
        obtain ⟨its, rv, p1, _⟩ := I1.tuple hqx
        obtain ⟨its2, rv2, p2, _⟩ := I1.tuple hqy
        obtain ⟨its3, rv3, p3, _⟩ := I1.list hqz
        have la : a < s1.heap.objs.size := by obtain ⟨o, ho, _⟩ := id p1; exact Heap.lt_size ho
        have lb : b < s1.heap.objs.size := by obtain ⟨o, ho, _⟩ := id p2; exact Heap.lt_size ho
        have lc : c < s1.heap.objs.size := p3.lt
        have one : ∀ {x N : Addr}, x < N → ∀ d ∈ [x], d < N := fun {x N} h d hd => by rw [List.mem_singleton.mp hd]; exact h
        have S := zip_sep3 (N := s1.heap.objs.size) (one la) (one lb) (one lc)
        refine zip_begins3 (begins_tuple a its.toArray) (begins_tuple b its2.toArray) (begins_list c its3.toArray) p1 p2 p3.isList fun h' hz hTI hTO g1 g2 g3 hsz hk => wpAny_pyIter_zip hz ?_
        have I2 : Inv X pins σ H1 { s1 with heap := h' } := I1.kept (t' := s1.toks) hk
        refine ⟨_, _, _, _, H1, rfl, I2, turn_zip3 (K := X.K) (a := a) (b := b) (c := c) S (Nat.ne_of_lt la) (Nat.ne_of_lt (Nat.lt_of_lt_of_le lb (Nat.le_add_right _ 1))) (Nat.ne_of_lt (Nat.lt_of_lt_of_le lc (Nat.le_add_right _ 2))), ⟨hz, hTI, ⟨_, _, _, hTO⟩, ⟨_, g1, rfl, rfl⟩, ⟨_, g2, rfl, rfl⟩, ⟨_, g3, rfl, rfl⟩⟩, fun d hdm => ?_, q⟩
        have hle : s1.heap.objs.size ≤ d := by
          simp only [List.mem_cons, List.not_mem_nil, or_false] at hdm
          rcases hdm with q | q | q | q | q | q <;> rw [q] <;> first | exact Nat.le_refl _ | exact Nat.le_add_right _ _
        exact I1.fpOk hle (I1.hok.fresh hle)

def tLenR3 (ta : TA) : TE := fun σ H Q => ta σ H fun vs H1 => ∃ (i j c : Int) (n : Nat), vs = [.int i, .int j, .int c] ∧ RgC i j c n ∧ (n : Int) < 2 ^ 63 ∧ Q (.int (n : Int)) H1
/-- len(range(a, b, c)) -/
theorem pe_lenR3 {X : Cx} {a b c : Expr} {ta : TA} {p p2 pos pos2 : Pos} (hgl : Gl X "len") (hml : X.mg "len" = none) (hg : Gl X "range") (hm : X.mg "range" = none) (ha : PA X [a, b, c] ta)
    (hs1 : starEach [.Call (.Name "range" p2) [a, b, c] [] pos2] X.env = (false, eval (.Call (.Name "range" p2) [a, b, c] [] pos2) X.env) :: starEach [] X.env := by rfl) (hpl1 : (backTo pos (starEach [] X.env)).any (·.1) = false := by rfl)
    (hs : starEach [a, b, c] X.env = (false, eval a X.env) :: starEach [b, c] X.env := by rfl) (hpl : (backTo pos2 (starEach [b, c] X.env)).any (·.1) = false := by rfl) :
    PE X (.Call (.Name "len" p) [.Call (.Name "range" p2) [a, b, c] [] pos2] [] pos) (tLenR3 ta) := by
  refine ⟨fun pins s σ H Q I h => ?_⟩
  refine wpAny_Call_Name_kw (ld_blt I hgl hml PySem.boot_len ?_)
  refine PyProof.Rows.callWith_builtin1 ?_ hs1 hpl1
  rw [hs1]
  show wpAny _ _ (spliced ((false, eval (.Call (.Name "range" p2) [a, b, c] [] pos2) X.env) :: backTo pos (starEach [] X.env))) _ _ s
  refine Calls.spliced_cons ?_
  refine Call_ (ld_blt I hg hm boot_range (PyProof.Rows.callWith_type1 (thn (ha.run pos2 pins s σ H _ I h) fun us s1 ⟨vs, H1, I1, r1, q1⟩ => ?_) hs hpl))
  obtain ⟨i, j, k, n, e, ⟨c0, c1, c2, c3⟩, hn, q⟩ := q1
  subst e
  cases r1 with
  | cons r rr =>
    cases rr with
    | cons r' rr =>
      cases rr with
      | cons r'' rr =>
        cases rr
        obtain ⟨t, rfl⟩ := r
        obtain ⟨t', rfl⟩ := r'
        obtain ⟨t'', rfl⟩ := r''
        refine call_range_3 c0 ?_ (.inl (PyProof.noPylong_small c1))
        have I2 : Inv X pins σ H1 { s1 with heap := s1.heap.push { cls := .type "range", data := .fields #[.int i t, .int j t', .int k t''] } } := I1.kept (t' := s1.toks) fun b o e => Heap.get?_push_of_some _ e
        refine Calls.spliced_nil ?_
        exact call_len_range (IsRange.new ..) c3 hn ⟨.int (n : Int), H1, I2.tok _, ⟨_, rfl⟩, q⟩
end Fw
end

section
-- part Fz4
set_option Elab.async false
set_option linter.all false
set_option maxRecDepth 100000
set_option maxHeartbeats 2000000
/-! Fz4: enumerate of a tuple -/
namespace Fw
open PySem PySem.Spec PyProof.Rows L2
open AutoSeq1 (wpAny_loadPart')
theorem meets_enum1 {v : Value} {o : Obj} {G : Heap → Prop} (B : Begins v o G) :
    Meets (Builtin.«enumerate.__new__» ⟨[.type "enumerate", v], []⟩) (fun _ R s => G s.heap ∧
      R (.ok (.ret (.ref (s.heap.push o).objs.size))) { s with heap := (s.heap.push o).push { cls := .type "enumerate", data := .fields #[.none, .bool false, .ref s.heap.objs.size, rawInt 0, .none, .none] } }) :=
  .of_wp fun prog w A R s h => by
    obtain ⟨hp, g, d, tk, os⟩ := s
    obtain ⟨h1, h⟩ := h
    have hsub := sub_enumerate
    have q1 : ∀ {A' : Around} {E : Value → Shared → Prop} {Q : Value → Shared → Prop}, Q (.ref hp.objs.size) ⟨hp.push o, g, d, tk, os⟩ → wpAny (model prog w) A' (pyIter v) Q E ⟨hp, g, d, tk, os⟩ :=
      fun q => B.iter prog w _ _ ⟨hp, g, d, tk, os⟩ _ h1 q
    wp_walk using q1
    refine wpAny_stack_any fun st => wpAny_pure ?_
    split
    · rename_i c _ _ _ _ _
      cases (c == Value.type "enumerate")
      · wp_walk using q1
        exact ⟨_, rfl, h⟩
      · wp_walk using q1
        exact ⟨_, rfl, h⟩
    · wp_walk using q1
      exact ⟨_, rfl, h⟩
section
variable {prog : Program} {w : World} {A : Around} {E : Value → Shared → Prop} {s : Shared}
theorem enum_begins1 {v : Value} {o : Obj} {G : Heap → Prop} {Q : Value → Shared → Prop} (B : Begins v o G) (h1 : G s.heap)
    (h : ∀ h', IsEnum h' (s.heap.objs.size + 1) s.heap.objs.size 0 .none → h'.get? s.heap.objs.size = some o → h'.objs.size = s.heap.objs.size + 2 →
      (∀ b o, s.heap.get? b = some o → h'.get? b = some o) → Q (.ref (s.heap.objs.size + 1)) { s with heap := h' }) :
    wpAny (model prog w) A (call (.type "enumerate") [v]) Q E s := by
  refine callType_new F.called_enumerate (by decide) (F.typeCall_enumerate_1 _) (F.newCall_enumerate_1 _) (fun obj => F.args_object_init_2 obj _) F.entry_enumerate_new (meets_enum1 B) ⟨h1, ?_⟩
  have hz : (s.heap.push o).objs.size = s.heap.objs.size + 1 := Heap.size_push ..
  show _ ∧ _
  rw [hz]
  have he : IsEnum ((s.heap.push o).push { cls := .type "enumerate", data := .fields #[.none, .bool false, .ref s.heap.objs.size, rawInt 0, .none, .none] }) (s.heap.objs.size + 1) s.heap.objs.size 0 .none := by
    have := Heap.get?_push_size (s.heap.push o) (o := { cls := .type "enumerate", data := .fields #[.none, .bool false, .ref s.heap.objs.size, rawInt 0, .none, .none] }) rfl
    rw [hz] at this
    exact this
  exact ⟨⟨_, he, rfl⟩, h _ he (Heap.get?_push_of_some _ (Heap.get?_push_size _ B.free)) (by rw [Heap.size_push, hz]) fun b o x => Heap.get?_push_of_some _ (Heap.get?_push_of_some _ x)⟩
end
/-- the tuple at a, each item in a new pair with its number -/
def IteT (K : PySem.W.Frag) (a : Addr) : It :=
  ⟨fun i H => ∃ (xs : List V) (x : V), SqT K H a xs ∧ xs[i]? = some x, fun i H v H' => ∃ T x, v = .ref T ∧ H T = none ∧ H' = upd H T (.tup [.int (i : Nat), x]) ∧ ∀ xs, SqT K H a xs → xs[i]? = some x, fun i H => ∃ xs : List V, SqT K H a xs ∧ xs.length = i⟩
theorem turn_enumT {P : Program} {w : World} {K : PySem.W.Frag} {elts : List Expr} {kk : Nat} {tpos : Pos} {a e it : Addr} (hei : e ≠ it) (hea : e ≠ a) (hai : a ≠ it) :
    Turn P w K (.Tuple elts kk tpos) (IteT K a) [e, it] e (fun i h => (∃ old, IsEnum h e it ((i : Nat) : Int) old) ∧ h.IsTupleIter it a i) where
  mem := by simp
  obj := fun i h st d hd => by
    obtain ⟨⟨old, he⟩, ⟨o1, e1, _, d1⟩⟩ := st
    have e' : d = e ∨ d = it := by simpa using hd
    rcases e' with q | q
    · rw [q]; exact ⟨_, he, fun v q => nomatch q⟩
    · rw [q]; exact ⟨o1, e1, fun v q => by rw [d1] at q; cases q⟩
  keep := fun i h h' st k => by
    obtain ⟨⟨old, he⟩, h1⟩ := st
    exact ⟨⟨old, k e (by simp) _ he⟩, h1.at fun o q => k it (by simp) o q⟩
  item := by
    intro X hP hw hK hc i pins s σ H E I hf st hg
    subst hP hw hK
    obtain ⟨⟨old, he⟩, h1⟩ := st
    obtain ⟨xs, x, hqx, hx⟩ := hg
    obtain ⟨its, rv, p, _⟩ := I.tuple hqx
    obtain ⟨u, hu, ru⟩ := rv.get hx
    have hh : X.A.in1.handled = none := I.ok.hd hc
    have W := WalksT.enumerateD (prog := X.prog) (w := X.w) (A := X.A) (Draws.tuple hh it a hai its.toArray) e hei (by simp; exact ⟨hei, hea⟩) (by simp)
    have l1 : i < its.length := (List.getElem?_eq_some_iff.mp hu).1
    refine W.item i s _ _ (by simp only [List.size_toArray]; omega) ⟨⟨old, he⟩, ⟨h1, p⟩⟩ fun T vals h' tk hP hsz hT hmid hk => ?_
    refine ⟨_, rfl, W.go _ _ _ i T { s with heap := h', toks := tk } _ _ hmid fun h'' st'' hk'' => ?_⟩
    obtain ⟨t, x1, q1, rfl⟩ := hP
    have q1' : its[i]? = some x1 := by simpa using q1
    rw [hu] at q1'
    cases q1'
    have hT2 : h''.IsTuple T #[.int (i : Int) t, u] := hT.at fun o e => hk'' T o (W.apart i T h' hmid) e
    have new : ObjOk X.prog X.w (upd H T (.tup [.int (i : Nat), x])) h'' T (.tup [.int (i : Nat), x]) := ⟨by show 2 ≤ sizeLine; decide, [.int (i : Int) t, u], .cons ⟨t, rfl⟩ (.cons ru .nil), hT2⟩
    have I1 : Inv X pins σ (upd H T (.tup [.int (i : Nat), x])) { s with heap := h'', toks := tk } :=
      I.turnedNew (t' := tk) (ch := [e, it]) (fun d o hb q => hk'' d o hb (hk d o hb q)) hf hsz new
    refine ⟨.ref T, _, I1, rfl, ⟨_, x, rfl, I.hok.fresh hsz, rfl, fun l hl => by rw [I.tuple_inj hl hqx]; exact hx⟩, ⟨st''.1, st''.2.1⟩, fun d hd => ?_⟩
    have hlt : d < s.heap.objs.size := by
      have e' : d = e ∨ d = it := by simpa using hd
      rcases e' with q | q
      · rw [q]; exact Heap.lt_size he
      · rw [q]; obtain ⟨_, e1, _⟩ := h1; exact Heap.lt_size e1
    rw [upd_ne (Nat.ne_of_lt (Nat.lt_of_lt_of_le hlt hsz))]
    exact (hf d hd).1
  done := by
    intro X hP hw hK hc i pins s σ H E I hf st hg
    subst hP hw hK
    obtain ⟨⟨old, he⟩, h1⟩ := st
    obtain ⟨xs, hqx, rfl⟩ := hg
    obtain ⟨its, rv, p, _⟩ := I.tuple hqx
    have hh : X.A.in1.handled = none := I.ok.hd hc
    have l1 := rv.length
    have W := WalksT.enumerateD (prog := X.prog) (w := X.w) (A := X.A) (Draws.tuple hh it a hai its.toArray) e hei (by simp; exact ⟨hei, hea⟩) (by simp)
    have en : its.toArray.size = xs.length := by simp only [List.size_toArray]; omega
    refine W.done s _ _ (by rw [en]; exact ⟨⟨old, he⟩, ⟨h1, p⟩⟩) fun h' tk hk => ⟨rfl, I.turnedL (t' := tk) (ch := [e, it]) (fun d o hb q => hk d o hb q) hf⟩
  self := fun A i s Q E st h => by
    obtain ⟨⟨old, he⟩, _⟩ := st
    exact wpAny_pyIter_enum he h
def iEnumT (K : PySem.W.Frag) (ta : TA) : TI := fun σ H R => ta σ H fun vs H1 => ∃ a xs, vs = [.ref a] ∧ SqT K H1 a xs ∧ R (IteT K a) H1
theorem pi_enumT {X : Cx} {e : Expr} {ta : TA} {p pos tpos : Pos} {elts : List Expr} {kk : Nat} (hg : Gl X "enumerate") (hm : X.mg "enumerate" = none) (ha : PA X [e] ta) (hs : starEach [e] X.env = [(false, eval e X.env)] := by rfl) :
    PI X (.Tuple elts kk tpos) (.Call (.Name "enumerate" p) [e] [] pos) (iEnumT X.K ta) := by
  refine ⟨fun pins s σ H R I h => ?_⟩
  refine Call_ (ld_blt I hg hm boot_enumerate (PyProof.Rows.callWith_type1 (thn (ha.run pos pins s σ H _ I h) fun us s1 ⟨vs, H1, I1, r1, q1⟩ => ?_) hs rfl))
  obtain ⟨a, xs, ex, hq, q⟩ := q1
  subst ex
  cases r1 with
  | cons r rr =>
    cases rr
    cases r
    obtain ⟨its, rv, p1, _⟩ := I1.tuple hq
    have la : a < s1.heap.objs.size := by obtain ⟨o, ho, _⟩ := id p1; exact Heap.lt_size ho
    refine enum_begins1 (begins_tuple a its.toArray) p1 fun h' he g1 hsz hk => wpAny_pyIter_enum he ?_
    have I2 : Inv X pins σ H1 { s1 with heap := h' } := I1.kept (t' := s1.toks) hk
    refine ⟨_, _, _, _, H1, rfl, I2, turn_enumT (K := X.K) (a := a) (Nat.succ_ne_self _) (Nat.ne_of_gt (Nat.lt_succ_of_lt la)) (Nat.ne_of_lt la), ⟨⟨.none, he⟩, ⟨_, g1, rfl, rfl⟩⟩, fun d hdm => ?_, q⟩
    have hle : s1.heap.objs.size ≤ d := by
      simp only [List.mem_cons, List.not_mem_nil, or_false] at hdm
      rcases hdm with q | q <;> rw [q] <;> first | exact Nat.le_refl _ | exact Nat.le_add_right _ _
    exact I1.fpOk hle (I1.hok.fresh hle)
section
variable {K : PySem.W.Frag} {σ : L2.St} {H : Hp} {g : TG} {tb : TS} {D : Ends} {ta : TA}
theorem w_iEnumT {R : It → Hp → Prop} (h : ta σ H fun vs H1 => ∃ a xs, vs = [.ref a] ∧ SqT K H1 a xs ∧ R (IteT K a) H1) : iEnumT K ta σ H R := h
theorem w_iZip3 {R : It → Hp → Prop} (h : ta σ H fun vs H1 => ∃ a b c xs ys zs, vs = [.ref a, .ref b, .ref c] ∧ SqT K H1 a xs ∧ SqT K H1 b ys ∧ SqL K H1 c zs ∧ R (Itz3 K a b c) H1) : iZip3 K ta σ H R := h
theorem w_par {i j : Nat} {D : Ends} (h : ta σ H fun vs H1 => ∃ v w, vs = [v, w] ∧ D.nx ((σ.set i (some v)).set j (some w)) H1) : tPar i j ta D σ H := h
theorem w_lenR3 {Q : VK} (h : ta σ H fun vs H1 => ∃ (i j c : Int) (n : Nat), vs = [.int i, .int j, .int c] ∧ RgC i j c n ∧ (n : Int) < 2 ^ 63 ∧ Q (.int (n : Int)) H1) : tLenR3 ta σ H Q := h
theorem for_enumT {a : Addr} {xs : List V} (Pv : Nat → L2.St → Hp → Prop) (h0 : Pv 0 σ H) (hq : ∀ i σ H, Pv i σ H → SqT K H a xs)
    (hs : ∀ (i : Nat) (x : V) (T : Addr) (σ : L2.St) (H : Hp), xs[i]? = some x → Pv i σ H → H T = none → g (.ref T) σ (upd H T (.tup [.int (i : Nat), x])) fun σ2 H2 => tb { D with nx := Pv (i + 1), ct := Pv (i + 1), bk := D.nx } σ2 H2)
    (hd : ∀ σ H, Pv xs.length σ H → D.nx σ H) :
    ∃ W : Nat → Nat → L2.St → Hp → Prop, (∃ m, W 0 m σ H) ∧ ∀ i m σ H, W i m σ H →
      ((IteT K a).stop i H ∧ D.nx σ H) ∨ ((IteT K a).go i H ∧ ∃ N : L2.St → Hp → Prop, (∀ σ' H', N σ' H' → ∃ m', m' < m ∧ W (i + 1) m' σ' H') ∧ ∀ v H', (IteT K a).yld i H v H' → g v σ H' fun σ2 H2 => tb { D with nx := N, ct := N, bk := D.nx } σ2 H2) := by
  refine ⟨fun i m σ H => m = xs.length - i ∧ i ≤ xs.length ∧ Pv i σ H, ⟨_, rfl, Nat.zero_le _, h0⟩, ?_⟩
  rintro i m σ H ⟨rfl, hi, p⟩
  by_cases hlt : i < xs.length
  · refine .inr ⟨⟨xs, xs[i], hq i σ H p, List.getElem?_eq_getElem hlt⟩, Pv (i + 1), fun σ' H' p' => ⟨xs.length - (i + 1), by omega, rfl, hlt, p'⟩, ?_⟩
    rintro v H' ⟨T, x, rfl, hT, rfl, hx⟩
    exact hs i x T σ H (hx xs (hq i σ H p)) p hT
  · have e : i = xs.length := by omega
    subst e
    exact .inl ⟨⟨xs, hq _ σ H p, rfl⟩, hd σ H p⟩
theorem for_zip3 {a b c : Addr} {xs ys zs : List V} (e1 : xs.length = ys.length) (e2 : ys.length = zs.length) (Pv : Nat → L2.St → Hp → Prop) (h0 : Pv 0 σ H) (hq : ∀ i σ H, Pv i σ H → SqT K H a xs ∧ SqT K H b ys ∧ SqL K H c zs)
    (hs : ∀ (i : Nat) (x y z : V) (T : Addr) (σ : L2.St) (H : Hp), xs[i]? = some x → ys[i]? = some y → zs[i]? = some z → Pv i σ H → H T = none → g (.ref T) σ (upd H T (.tup [x, y, z])) fun σ2 H2 => tb { D with nx := Pv (i + 1), ct := Pv (i + 1), bk := D.nx } σ2 H2)
    (hd : ∀ σ H, Pv xs.length σ H → D.nx σ H) :
    ∃ W : Nat → Nat → L2.St → Hp → Prop, (∃ m, W 0 m σ H) ∧ ∀ i m σ H, W i m σ H →
      ((Itz3 K a b c).stop i H ∧ D.nx σ H) ∨ ((Itz3 K a b c).go i H ∧ ∃ N : L2.St → Hp → Prop, (∀ σ' H', N σ' H' → ∃ m', m' < m ∧ W (i + 1) m' σ' H') ∧ ∀ v H', (Itz3 K a b c).yld i H v H' → g v σ H' fun σ2 H2 => tb { D with nx := N, ct := N, bk := D.nx } σ2 H2) := by
  refine ⟨fun i m σ H => m = xs.length - i ∧ i ≤ xs.length ∧ Pv i σ H, ⟨_, rfl, Nat.zero_le _, h0⟩, ?_⟩
  rintro i m σ H ⟨rfl, hi, p⟩
  by_cases hlt : i < xs.length
  · have q := hq i σ H p
    refine .inr ⟨⟨xs, ys, zs, xs[i], ys[i], zs[i], q.1, q.2.1, q.2.2, List.getElem?_eq_getElem hlt, List.getElem?_eq_getElem (by omega), List.getElem?_eq_getElem (by omega)⟩, Pv (i + 1), fun σ' H' p' => ⟨xs.length - (i + 1), by omega, rfl, hlt, p'⟩, ?_⟩
    rintro v H' ⟨T, x, y, z, rfl, hT, rfl, hx, hy, hz⟩
    exact hs i x y z T σ H (hx xs q.1) (hy ys q.2.1) (hz zs q.2.2) p hT
  · have e : i = xs.length := by omega
    subst e
    have q := hq _ σ H p
    exact .inl ⟨⟨xs, ys, zs, q.1, q.2.1, q.2.2, rfl, e1, e2⟩, hd σ H p⟩
end
section
variable {H : Hp} {Q : VK}
theorem w_neI {a b : Int} (q : Q (.bl (!decide (a = b))) H) : rNe (.int a) (.int b) H Q := ⟨rfl, by rw [show (decide (V.int a = V.int b)) = decide (a = b) by simp]; exact q⟩
theorem bl_eq {a b : Bool} : (decide (V.bl a = V.bl b)) = (a == b) := by cases a <;> cases b <;> rfl
theorem w_eqB {a b : Bool} (q : Q (.bl (a == b)) H) : rEq (.bl a) (.bl b) H Q := ⟨rfl, by rw [bl_eq]; exact q⟩
theorem w_neB {a b : Bool} (q : Q (.bl (a != b)) H) : rNe (.bl a) (.bl b) H Q := ⟨rfl, by rw [bl_eq]; exact q⟩
end
section
variable {K : PySem.W.Frag} {σ : L2.St} {H : Hp} {te : TE} {vs : List Nat} {tt : TT} {g : TG}
/-- a comprehension over a list, its end told by the new list's place -/
theorem w_lcLn {p : Addr} {xs : List V} {R : Addr → Hp → Prop} (hS : SqL K H p xs) (h : ∀ D, H D = none → ∃ Pv : Nat → Hp → Prop, Pv 0 (upd H D (.lst [])) ∧ (∀ i H2, i ≤ xs.length → Pv i H2 → SqL K H2 p xs) ∧
      (∀ i x H2, xs[i]? = some x → Pv i H2 → g x (wipe σ vs) H2 fun σ2 H2 => wipe σ2 vs = wipe σ vs ∧ tt σ2 H2 fun b H3 =>
        if b = true then te σ2 H3 fun y H4 => ∃ acc, H4 D = some (.lst acc) ∧ acc.length < sizeLine ∧ Pv (i + 1) (upd H4 D (.lst (acc ++ [y]))) else Pv (i + 1) H3) ∧ (∀ H2, Pv xs.length H2 → R D H2)) :
    ∃ a, V.ref p = .ref a ∧ (∃ xs, SqL K H a xs) ∧ ∀ D, H D = none → ∃ W : Nat → Nat → Hp → Prop, (∃ m, W 0 m (upd H D (.lst []))) ∧ ∀ i m H, W i m H →
      ((Itl K a).stop i H ∧ R D H) ∨ ((Itl K a).go i H ∧ ∃ Nx : Hp → Prop, (∀ H', Nx H' → ∃ m', m' < m ∧ W (i + 1) m' H') ∧ ∀ x H', (Itl K a).yld i H x H' → g x (wipe σ vs) H' fun σ2 H2 => wipe σ2 vs = wipe σ vs ∧ tt σ2 H2 fun b H3 =>
        if b = true then te σ2 H3 fun y H4 => ∃ acc, H4 D = some (.lst acc) ∧ acc.length < sizeLine ∧ Nx (upd H4 D (.lst (acc ++ [y]))) else Nx H3) := by
  refine ⟨p, rfl, ⟨xs, hS⟩, fun D hD => ?_⟩
  obtain ⟨Pv, h0, hl, hs, hd⟩ := h D hD
  exact lc_list (Qd := fun H => R D H) Pv h0 hl hs hd
end
section
variable {K : PySem.W.Frag} {σ : L2.St} {H : Hp} {g : TG} {tb : TS} {D : Ends} {ta : TA}
theorem w_iZip {R : It → Hp → Prop} (h : ta σ H fun vs H1 => ∃ a b xs ys, vs = [.ref a, .ref b] ∧ SqL K H1 a xs ∧ SqL K H1 b ys ∧ R (Itz K a b) H1) : iZip K ta σ H R := h
theorem for_zipN {a b : Addr} {xs ys : List V} (Pv : Nat → L2.St → Hp → Prop) (h0 : Pv 0 σ H) (hq : ∀ i σ H, Pv i σ H → SqL K H a xs ∧ SqL K H b ys)
    (hs : ∀ (i : Nat) (x y : V) (T : Addr) (σ : L2.St) (H : Hp), xs[i]? = some x → ys[i]? = some y → Pv i σ H → H T = none → g (.ref T) σ (upd H T (.tup [x, y])) fun σ2 H2 => tb { D with nx := Pv (i + 1), ct := Pv (i + 1), bk := D.nx } σ2 H2)
    (hd : ∀ i σ H, Pv i σ H → D.nx σ H) :
    ∃ W : Nat → Nat → L2.St → Hp → Prop, (∃ m, W 0 m σ H) ∧ ∀ i m σ H, W i m σ H →
      ((Itz K a b).stop i H ∧ D.nx σ H) ∨ ((Itz K a b).go i H ∧ ∃ N : L2.St → Hp → Prop, (∀ σ' H', N σ' H' → ∃ m', m' < m ∧ W (i + 1) m' σ' H') ∧ ∀ v H', (Itz K a b).yld i H v H' → g v σ H' fun σ2 H2 => tb { D with nx := N, ct := N, bk := D.nx } σ2 H2) := by
  refine ⟨fun i m σ H => m = xs.length - i ∧ Pv i σ H, ⟨_, rfl, h0⟩, ?_⟩
  rintro i m σ H ⟨rfl, p⟩
  have q := hq i σ H p
  by_cases h1 : i < xs.length
  · by_cases h2 : i < ys.length
    · refine .inr ⟨⟨xs, ys, xs[i], ys[i], q.1, q.2, List.getElem?_eq_getElem h1, List.getElem?_eq_getElem h2⟩, Pv (i + 1), fun σ' H' p' => ⟨xs.length - (i + 1), by omega, rfl, p'⟩, ?_⟩
      rintro v H' ⟨T, x, y, rfl, hT, rfl, hx, hy⟩
      exact hs i x y T σ H (hx xs q.1) (hy ys q.2) p hT
    · exact .inl ⟨⟨xs, ys, q.1, q.2, .inr (by omega)⟩, hd i σ H p⟩
  · exact .inl ⟨⟨xs, ys, q.1, q.2, .inl (by omega)⟩, hd i σ H p⟩
end
section
variable {X : Cx}
theorem ix_tupK (K : PySem.W.Frag) (h : X.K = K) : IxR X (rIxT K) := by subst h; exact ix_tup
theorem ix_listK (K : PySem.W.Frag) (h : X.K = K) : IxR X (rIxL K) := by subst h; exact ix_list
theorem sl_listK (K : PySem.W.Frag) (h : X.K = K) : SlR X (rSlL K) := by subst h; exact sl_list
theorem len_seqK (K : PySem.W.Frag) (h : X.K = K) : CallR X (.builtin "len") (fun xs H Q => ∃ p ys, xs = [.ref p] ∧ (SqL K H p ys ∨ SqT K H p ys) ∧ Q (.int ys.length) H) := by subst h; exact call_len_seq
theorem tuple_ofK (K : PySem.W.Frag) (h : X.K = K) : CallR X (.type "tuple") (fun xs H Q => ∃ p ys, xs = [.ref p] ∧ ((SqL K H p ys ∧ ∀ l, H l = none → Q (.ref l) (upd H l (.tup ys))) ∨ (SqT K H p ys ∧ Q (.ref p) H))) := by subst h; exact call_tuple_of
end
end Fw
end

section
-- part Fq
set_option Elab.async false
set_option linter.all false
set_option maxRecDepth 100000
set_option maxHeartbeats 2000000
/-! Fq: a def that raises into a try whose suite raises on; a call within a try; X('m') where an exception is handled -/
namespace Fw
open PySem PySem.Spec PyProof.Rows L2
/-- as Cl, its exceptions told with their contexts -/
structure ClN (P : Program) (w : World) (K : PySem.W.Frag) (mg : Str → Option Value) (base : Heap) (k : Nat) (x : Str) (sp : Sp) : Prop where
  ex : ∃ (f : Addr) (fd : FuncData) (ps : List Str), FnOk P w K mg base (L2N.CX P w) k f fd ps sp ∧ mg x = some (.ref f) ∧ PySem.W.keepIn K (.ref f) = true ∧ Binds K fd ps []
section
variable {P : Program} {w : World} {K : PySem.W.Frag} {mg : Str → Option Value} {base : Heap} {x : Str} {st : Stmt}
theorem clN_mk {N ps : List Str} {k : Nat} {sp : Sp} (F : FnP K mg x st) (S : FnScope N ps (defScope st))
    (b : ∀ (kV doc pm : Value) (an : Option Addr) (cdv ct : Value) (us : List Value), us.length = ps.length → bindArgs (PySem.W.fnOf x x (defArgs st) (defBody st) (defScope st) .none kV doc pm an cdv ct) ⟨us, []⟩ = pure (ps.zip us))
    (len : ∀ vs H Q E, sp vs H Q E → vs.length = ps.length)
    (hbody : ∀ (f : Addr) (cdv : Value) (A : Around) (outer : List Env) (s : Shared) (H : Hp) (vs : List V) (Q : VK) (E : XK), Room k (A.deeper (envOfC x (defScope st) s.heap.objs.size f cdv)) → sp vs H Q E →
      ∃ t, PSs (cxOf (L2N.CX P w) P w K mg base N x (defScope st) f cdv A outer s H E) (defBody st) t ∧ t { nx := fun _ H' => Q .non H', rt := Q } (start N vs) H) : ClN P w K mg base (k + 1) x sp := by
  obtain ⟨f, fd, F, m⟩ := F
  exact ⟨f, fd, ps, F.ok S len (hbody f), m, F.kp, F.bindsN b⟩
end
section
variable {X : Cx} {CX : CXT} {k j : Nat} {x : Str} {sp : Sp} {E : L2.St → XK} {p pos : Pos} {e : Expr} {es : List Expr} {t : TA}
theorem pe_clS (c : ∃ (f : Addr) (fd : FuncData) (ps : List Str), FnOk X.prog X.w X.K X.mg X.base CX k f fd ps sp ∧ X.mg x = some (.ref f) ∧ PySem.W.keepIn X.K (.ref f) = true ∧ Binds X.K fd ps []) (hr : Room j X.A) (hk : k ≤ j) (hg : Gl X x) (hx : ∀ σ, PassesAt CX X σ (E σ)) (ha : PA X (e :: es) t)
    (hdb : (x == ("__debug__" : Str)) = false := by decide) (he : starEach (e :: es) X.env = (false, eval e X.env) :: starEach es X.env := by rfl) (hpl : (backTo pos (starEach es X.env)).any (·.1) = false := by rfl) :
    PE X (.Call (.Name x p) (e :: es) [] pos) (tCallS sp E t) := by
  obtain ⟨f, fd, ps, F, hm, kp, b⟩ := c
  exact pe_callS F (hr.mono hk) hg hm kp b hx ha hdb he hpl
theorem w_clS {σ : L2.St} {H : Hp} {Q : VK} (h : t σ H fun vs H1 => sp vs H1 Q (E σ)) : tCallS sp E t σ H Q := h
end
/-- a, b = .. within a try: the frame told by name -/
theorem pg_tupK (K : PySem.W.Frag) (n : Nat) {X : Cx} {es : List Expr} {k : Nat} {pos : Pos} {t : TGs} (hK : X.K = K) (hc : X.calm = true) (h : PGs X es t) (hn : (assignEach es X.env).length = n) (hst : (assignEach es X.env).findIdx? (·.1) = none) : PG X (.Tuple es k pos) (gTup K n t) := by
  subst hK
  exact pg_tup hc h hn hst
section
variable {X : Cx} {C : Addr} {bmB : List Value} {B newId initId : String}
/-- X('m') -/
theorem pmk5_own {x m : Str} {j : Nat} {p p2 pos : Pos} (F : ExcBaseFacts B newId initId bmB) (q : PySem.W.excIn X.K C bmB newId = true) (gC : X.mg x = some (.ref C)) (kC : PySem.W.keepIn X.K (.ref C) = true) (r : Raises X (.ref C)) (hg : Gl X x)
    (hdb : (x == ("__debug__" : Str)) = false := by decide) : L2H.PMk5 X (.Call (.Name x p) [.Constant (.str m) j p2] [] pos) (fun _ H Q => Q (.ref C) none H) := fun pins s σ H Q I h => by
  have args : PA X [.Constant (.str m) j p2] (tCons (tC (.str m)) tNil) := pa_cons pe_str pa_nil
  refine wpAny_Call_Name_kw (ld_glob I hg gC (PySem.W.callWith_K (h₀ := X.base) I.ok.mod.kin kC (thn (args.run pos pins s σ H (fun vs H1 => vs = [V.str m] ∧ H = H1) I ⟨rfl, rfl⟩) ?_)) hdb)
  rintro us s1 ⟨vs, H1, I1, rv, rfl, rfl⟩
  refine ⟨I1.kIn, ?_⟩
  obtain ⟨u, rfl, ru⟩ := rv.one
  obtain ⟨bm, N, nm, qn, bs, hdct, sn, sub, ab, col, dd, k0, k1, k2, k3, k5, mN, hC, hN, hni, T⟩ := exc_obj I1.kIn q
  exact wpAny_call_exc_subT F T hC hN hni (fun h' e hm => L2H.mk_of5 I1 hm r h (I1.hok.gone hm.new)) (by show 1 ≤ sizeLine; rw [sizeLine_eq]; omega)
end
end Fw
end

section
-- part Fac
set_option Elab.async false
set_option linter.all false
set_option maxRecDepth 100000
set_option maxHeartbeats 1000000
namespace Ac
open PySem PySem.Spec PyProof.Rows
theorem owner_acc : Manifest.owners.lookup (String.ofList ['e', 't', 'a', 'l', 'u', 'm', 'u', 'c', 'c', 'a', '.', 's', 'l', 'o', 'o', 't', 'r', 'e', 't', 'i'].reverse) = some Manifest.sig_itertools_accumulate := by kernel_rfl
theorem mro_acc : mroOf (.type "itertools.accumulate") = pure [.type "itertools.accumulate", .type "object"] := by rw [mroOf_type]; kernel_rfl
theorem lookup_acc_new : typeLookup (.type "itertools.accumulate") "__new__" = pure (some (.builtin "itertools.accumulate.__new__")) := by rw [typeLookup_type, builtinLookup_eq_fast]; kernel_rfl
theorem slot_acc_init : Slot "itertools.accumulate" "__init__" "object.__init__" :=
  .of (owner := "object") (n := "__init__") (by rw [typeLookup_type, builtinLookup_eq_fast]; kernel_rfl) (by decide +kernel) (by decide +kernel) (by decide +kernel)
    (by first | exact .inl (by decide +kernel) | exact .inr (by decide +kernel)) (by rw [isSubtype_type]; kernel_rfl)
theorem sub_acc : isSubtype (.type "itertools.accumulate") (.type "itertools.accumulate") = pure true := by rw [isSubtype_type]; kernel_rfl
theorem called_acc : TypeCalled "itertools.accumulate" "itertools.accumulate.__new__" "object.__init__" :=
  ⟨by decide +kernel, by decide +kernel, ⟨_, _, mro_acc⟩, madeBy_type mro_acc lookup_acc_new (by decide +kernel), by decide +kernel, sub_acc, slot_acc_init⟩
theorem typeCall_acc (a : Value) : checkTypeCall "itertools.accumulate" ⟨[a], []⟩ = pure () := by kernel_rfl
theorem newCall_acc (a : Value) : checkBuiltinCall "itertools.accumulate.__new__" ⟨[.type "itertools.accumulate", a], []⟩ = pure () := by kernel_rfl
theorem entry_acc_new : entryFor table "itertools.accumulate.__new__" = some Builtin.«itertools.accumulate.__new__» := entryFor_of_tree (by kernel_rfl)
theorem slot_acc_iter : Slot "itertools.accumulate" "__iter__" "itertools.accumulate.__iter__" :=
  .of (owner := "itertools.accumulate") (n := "__iter__") (by rw [typeLookup_type, builtinLookup_eq_fast]; kernel_rfl) (by decide +kernel) (by decide +kernel) (by decide +kernel)
    (by first | exact .inl (by decide +kernel) | exact .inr (by decide +kernel)) sub_acc
theorem slot_acc_next : Slot "itertools.accumulate" "__next__" "itertools.accumulate.__next__" :=
  .of (owner := "itertools.accumulate") (n := "__next__") (by rw [typeLookup_type, builtinLookup_eq_fast]; kernel_rfl) (by decide +kernel) (by decide +kernel) (by decide +kernel)
    (by first | exact .inl (by decide +kernel) | exact .inr (by decide +kernel)) sub_acc
theorem entry_acc_iter : entryFor table "itertools.accumulate.__iter__" = some Builtin.«dict_keyiterator.__iter__» :=
  entryFor_alias (id' := "dict_keyiterator.__iter__") (by kernel_rfl) (by first | rfl | decide +kernel | (unfold String.splitOn; simp +decide [String.splitOnAux])) (by decide +kernel) (by kernel_rfl)
theorem entry_acc_next : entryFor table "itertools.accumulate.__next__" = some Builtin.«itertools.accumulate.__next__» := entryFor_of_tree (by kernel_rfl)
theorem args_acc_iter (a : Value) : argsOk "itertools.accumulate.__iter__" ⟨[a], []⟩ := by
  unfold argsOk; rw [signature?_of (id := "itertools.accumulate.__iter__") (n := ['_', '_', 'r', 'e', 't', 'i', '_', '_']) (o := ['e', 't', 'a', 'l', 'u', 'm', 'u', 'c', 'c', 'a', '.', 's', 'l', 'o', 'o', 't', 'r', 'e', 't', 'i']) (by kernel_rfl) owner_acc]; kernel_rfl
theorem args_acc_next (a : Value) : argsOk "itertools.accumulate.__next__" ⟨[a], []⟩ := by
  unfold argsOk; rw [signature?_of (id := "itertools.accumulate.__next__") (n := ['_', '_', 't', 'x', 'e', 'n', '_', '_']) (o := ['e', 't', 'a', 'l', 'u', 'm', 'u', 'c', 'c', 'a', '.', 's', 'l', 'o', 'o', 't', 'r', 'e', 't', 'i']) (by kernel_rfl) owner_acc]; kernel_rfl
theorem noDict_acc : typeHasDict (.type "itertools.accumulate") = false := by decide +kernel
/-- an accumulate object: what it draws from, its total so far -/
abbrev IsAcc (h : Heap) (a it : Addr) (S : Int) (t : Tok) : Prop := h.get? a = some { cls := .type "itertools.accumulate", dict := none, data := .fields #[.ref it, .none, .int S t, .none], slots := #[] }
theorem classRest_acc (x : Value) : Builtin.Itertools.itClassAndRest "accumulate" ⟨[.type "itertools.accumulate", x], []⟩ = pure (.type "itertools.accumulate", [x]) := by
  unfold Builtin.Itertools.itClassAndRest
  have e : ("itertools." ++ "accumulate" : String) = "itertools.accumulate" := by decide
  simp only [e, isType, sub_acc, pure_bind, Bool.not_true, Bool.false_eq_true, if_false]
theorem bind_acc (x : Value) : Builtin.Itertools.itBindNamed "accumulate" ["iterable", "func", "initial"] 1 2 [x] [] = pure [some x, none, none] := by
  first | rfl | kernel_rfl
section
variable {prog : Program} {w : World} {A : Around} {E : Value → Shared → Prop} {s : Shared}
theorem new_acc (x : Value) : MeetsIn prog w (Builtin.«itertools.accumulate.__new__» ⟨[.type "itertools.accumulate", x], []⟩)
    (fun A R s => wpAny (model prog w) A.in1 (pyIter x) (fun itv s1 => R (.ok (.ret (.ref s1.heap.objs.size))) { s1 with heap := s1.heap.push { cls := .type "itertools.accumulate", data := .fields #[itv, .none, .int 0 0, .none] } }) (fun e s1 => R (.error e) s1) s) :=
  .of_wp fun A R s h => by
    unfold Builtin.«itertools.accumulate.__new__»
    refine wpAny_bind (wpAny_of_eq (classRest_acc _) ?_)
    try dsimp only
    refine wpAny_bind (wpAny_of_eq (bind_acc _) ?_)
    try dsimp only
    refine wpAny_bind (wpAny_mono h (fun itv s1 hR => ?_) fun _ _ z => z)
    refine wpAny_bind ?_
    unfold Builtin.Itertools.itNewRecord
    rw [if_pos (by rw [noDict_acc]; rfl)]
    show wpAny _ _ (newObj (.type "itertools.accumulate") (.fields #[itv, .none, .int 0 0, .none])) _ _ _
    refine wpAny_newObj_type ?_
    exact wpAny_pure ⟨_, rfl, hR⟩
theorem call_acc {x : Value} {Q : Value → Shared → Prop}
    (hx : wpAny (model prog w) A.in1.in1 (pyIter x) (fun itv s1 => ∀ h', h'.get? s1.heap.objs.size = some { cls := .type "itertools.accumulate", dict := none, data := .fields #[itv, .none, .int 0 0, .none], slots := #[] } →
      (∀ c o, s1.heap.get? c = some o → h'.get? c = some o) → Q (.ref s1.heap.objs.size) { s1 with heap := h' }) E s) :
    wpAny (model prog w) A (call (.type "itertools.accumulate") [x]) Q E s := by
  refine callType_newIn called_acc (by decide +kernel) (typeCall_acc _) (newCall_acc _) (fun obj => F.args_object_init_2 obj _) entry_acc_new (new_acc x) ?_
  show wpAny (model prog w) A.in1.in1 (pyIter x) _ _ _
  refine wpAny_mono hx (fun itv s1 h => ?_) fun _ _ z => z
  have g : (s1.heap.push { cls := .type "itertools.accumulate", data := .fields #[itv, .none, .int 0 0, .none] }).get? s1.heap.objs.size = some { cls := .type "itertools.accumulate", dict := none, data := .fields #[itv, .none, .int 0 0, .none], slots := #[] } := Heap.get?_push_size _ rfl
  show _ ∧ _
  exact ⟨⟨_, g, rfl⟩, h _ g fun c o e => Heap.get?_push_of_some _ e⟩
/-- one item of a tuple's iterator, asked for by its slot -/
theorem raw_item {it t : Addr} {i : Nat} {items : Array Value} {x : Value} {Q : Value → Shared → Prop} (hit : s.heap.IsTupleIter it t i) (ht : s.heap.IsTuple t items) (hx : items[i]? = some x)
    (hQ : ∀ h', h'.IsTupleIter it t (i + 1) → Heap.SameBut it s.heap h' → Q x { s with heap := h' }) : wpAny (model prog w) A (Builtin.Itertools.itRawNext (.ref it)) Q E s := by
  obtain ⟨o1, g1, c1, d1⟩ := id hit
  obtain ⟨o2, g2, _, n2, d2⟩ := ht
  unfold Builtin.Itertools.itRawNext
  refine wpAny_bind (wpAny_callSpecial?_slot (name := Str.ofString "__next__") hit.typeIs F.slot_tuple_iterator_next (wpAny_call_entry F.slot_tuple_iterator_next hit.typeIs F.entry_tuple_iterator_next ?_ (F.args_tuple_iterator_next_1 _)))
  show wpAny _ _ (field (.ref it) 0 >>= _) _ _ s
  refine wpAny_bind (wpAny_field g1 d1 (x := .ref t) rfl ?_)
  show wpAny _ _ (if (Value.ref t == Value.none) = true then _ else _) _ _ s
  rw [if_neg (fun z : (Value.ref t == Value.none) = true => Bool.false_ne_true z)]
  show wpAny _ _ (field (.ref it) 1 >>= _) _ _ s
  refine wpAny_bind (wpAny_field g1 d1 (x := .int i 0) rfl ?_)
  show wpAny _ _ (seqItems? (.ref t) >>= _) _ _ s
  refine wpAny_bind (wpAny_seqItems g2 d2 ?_)
  simp only [Int.toNat_natCast, hx]
  refine wpAny_bind (wpAny_setField g1 d1 (by simp) (wpAny_pure ⟨x, rfl, wpAny_pure (hQ _ ⟨_, Heap.get?_update_self _ g1 (Obj.isFreed_of_fields (Obj.data_mapFields d1 _)), (Obj.cls_mapFields ..).trans c1, ?_⟩ (Heap.SameBut.update ..))⟩))
  rw [Obj.data_mapFields d1]
  simp [rawInt]
theorem raw_end {it t : Addr} {i : Nat} {items : Array Value} {Q : Value → Shared → Prop} (hh : A.handled = none) (hit : s.heap.IsTupleIter it t i) (ht : s.heap.IsTuple t items) (hx : items[i]? = none)
    (hE : ∀ h' e, Heap.ExtBut it s.heap h' → (∃ o, h'.get? e = some o ∧ o.cls = .type "StopIteration") → E (.ref e) { s with heap := h' }) : wpAny (model prog w) A (Builtin.Itertools.itRawNext (.ref it)) Q E s := by
  obtain ⟨o1, g1, c1, d1⟩ := id hit
  obtain ⟨o2, g2, _, n2, d2⟩ := ht
  unfold Builtin.Itertools.itRawNext
  refine wpAny_bind (wpAny_callSpecial?_slot (name := Str.ofString "__next__") hit.typeIs F.slot_tuple_iterator_next (wpAny_call_entry F.slot_tuple_iterator_next hit.typeIs F.entry_tuple_iterator_next ?_ (F.args_tuple_iterator_next_1 _)))
  show wpAny _ _ (field (.ref it) 0 >>= _) _ _ s
  refine wpAny_bind (wpAny_field g1 d1 (x := .ref t) rfl ?_)
  show wpAny _ _ (if (Value.ref t == Value.none) = true then _ else _) _ _ s
  rw [if_neg (fun z : (Value.ref t == Value.none) = true => Bool.false_ne_true z)]
  show wpAny _ _ (field (.ref it) 1 >>= _) _ _ s
  refine wpAny_bind (wpAny_field g1 d1 (x := .int i 0) rfl ?_)
  show wpAny _ _ (seqItems? (.ref t) >>= _) _ _ s
  refine wpAny_bind (wpAny_seqItems g2 d2 ?_)
  simp only [Int.toNat_natCast, hx]
  refine wpAny_bind (wpAny_rule (wpAny_bind (wpAny_setField g1 d1 (by simp) ?_)))
  show wpAny _ _ (newExc (.type "StopIteration") [] >>= _) _ _ _
  refine wpAny_bind ?_
  simp only [newExc, newTuple]
  refine wpAny_bind (wpAny_newObj_type ?_ (by size_fits))
  refine wpAny_bind (m := firstArgMember _ _) (wpAny_of_eq (a := Value.none) (by first | rfl | (simp only [firstArgMember]; rfl)) ?_)
  refine wpAny_newObj_type ?_ (by size_fits)
  simp only [raiseNew]
  refine wpAny_bind (wpAny_handled ?_)
  first | rw [show A.in1.handled = none from hh] | rw [hh]
  refine wpAny_bind (wpAny_pure (wpAny_throw ?_))
  exact hE _ _ (((Heap.SameBut.update ..).extBut.push _).push _) ⟨_, Heap.get?_push_size _ rfl, rfl⟩
/-- the next total -/
theorem acc_item {a it t : Addr} {i : Nat} {items : Array Value} {S b : Int} {tk u : Tok} {Q : Option Value → Shared → Prop} (ha : IsAcc s.heap a it S tk) (hit : s.heap.IsTupleIter it t i) (ht : s.heap.IsTuple t items) (hx : items[i]? = some (.int b u)) (h1 : a ≠ it) (h2 : t ≠ it) (h3 : t ≠ a)
    (hQ : ∀ h' v k, IsAcc h' a it (S + b) v → h'.IsTupleIter it t (i + 1) → h'.IsTuple t items → (∀ c o, c ≠ it → c ≠ a → s.heap.get? c = some o → h'.get? c = some o) → s.toks ≤ k → Q (some (.int (S + b) v)) { s with heap := h', toks := k }) :
    wpAny (model prog w) A (pyNext (.ref a)) Q E s := by
  have hT : s.TypeIs (.ref a) "itertools.accumulate" := ⟨_, ha, rfl⟩
  unfold pyNext
  refine wpAny_bind (wpAny_attempt (wpAny_callSpecial?_slot (name := Str.ofString "__next__") hT slot_acc_next (wpAny_call_entry slot_acc_next hT entry_acc_next ?_ (args_acc_next _))))
  show wpAny _ _ (field (.ref a) 3 >>= _) _ _ s
  refine wpAny_bind (wpAny_field ha rfl (x := .none) rfl ?_)
  show wpAny _ _ (field (.ref a) 0 >>= _) _ _ s
  refine wpAny_bind (wpAny_field ha rfl (x := .ref it) rfl ?_)
  refine wpAny_bind (raw_item hit ht hx fun h' hit' hs => ?_)
  have ha' : IsAcc h' a it S tk := (hs.2 a h1).trans ha
  have ht' : h'.IsTuple t items := ht.extBut hs.extBut h2
  show wpAny _ _ (field (.ref a) 2 >>= _) _ _ _
  refine wpAny_bind (wpAny_field ha' rfl (x := .int S tk) rfl ?_)
  have upd2 : ∀ (x : Value), (h'.update a (Obj.mapFields fun y => y.setIfInBounds 2 x)).get? a = some { cls := .type "itertools.accumulate", dict := none, data := .fields #[.ref it, .none, x, .none], slots := #[] } := fun x => Heap.get?_update_self _ ha' rfl
  have oth : ∀ (x : Value) c o, c ≠ a → h'.get? c = some o → (h'.update a (Obj.mapFields fun y => y.setIfInBounds 2 x)).get? c = some o := fun x c o hc e => (Heap.get?_update_other _ _ (Ne.symm hc)).trans e
  obtain ⟨o1, g1, r1⟩ := hit'
  obtain ⟨o2, g2, r2⟩ := ht'
  by_cases hz : (Value.int S tk == Builtin.Itertools.itNothing) = true
  · obtain rfl : S = 0 := by
      simp [Builtin.Itertools.itNothing, rawInt] at hz
      exact hz.1
    show wpAny _ _ (if (Value.int 0 tk == Builtin.Itertools.itNothing) = true then _ else _) _ _ _
    rw [if_pos hz]
    refine wpAny_bind (wpAny_rule ?_)
    refine wpAny_bind (wpAny_setField ha' rfl (by simp) ?_)
    refine wpAny_pure ⟨_, rfl, ?_⟩
    have e0 : (0 : Int) + b = b := Int.zero_add b
    rw [e0] at hQ
    exact wpAny_pure (hQ _ u s.toks (upd2 _) ⟨o1, oth _ _ _ (Ne.symm h1) g1, r1⟩ ⟨o2, oth _ _ _ h3 g2, r2⟩ (fun c o c1 c2 e => oth _ _ _ c2 (hs.extBut c o c1 e)) (Nat.le_refl _))
  · show wpAny _ _ (if (Value.int S tk == Builtin.Itertools.itNothing) = true then _ else _) _ _ _
    rw [if_neg hz]
    show wpAny _ _ (field (.ref a) 1 >>= _) _ _ _
    refine wpAny_bind (wpAny_field ha' rfl (x := .none) rfl ?_)
    refine wpAny_bind (wpAny_holding ?_)
    show wpAny _ _ (binaryOp .Add (.int S tk) (.int b u)) _ _ _
    refine PyProof.Rows.add_int ?_
    refine wpAny_bind (wpAny_setField ha' rfl (by simp) ?_)
    refine wpAny_bind (wpAny_letGo ?_)
    refine wpAny_pure ⟨_, rfl, ?_⟩
    exact wpAny_pure (hQ _ _ (s.toks + 1) (upd2 _) ⟨o1, oth _ _ _ (Ne.symm h1) g1, r1⟩ ⟨o2, oth _ _ _ h3 g2, r2⟩ (fun c o c1 c2 e => oth _ _ _ c2 (hs.extBut c o c1 e)) (Nat.le_succ _))
theorem acc_end {a it t : Addr} {i : Nat} {items : Array Value} {S : Int} {tk : Tok} {Q : Option Value → Shared → Prop} (hh : A.handled = none) (ha : IsAcc s.heap a it S tk) (hit : s.heap.IsTupleIter it t i) (ht : s.heap.IsTuple t items) (hx : items[i]? = none)
    (hQ : ∀ h', Heap.ExtBut it s.heap h' → Q none { s with heap := h' }) : wpAny (model prog w) A (pyNext (.ref a)) Q E s := by
  have hT : s.TypeIs (.ref a) "itertools.accumulate" := ⟨_, ha, rfl⟩
  have hh1 : A.in1.handled = none := hh
  unfold pyNext
  refine wpAny_bind (wpAny_attempt (wpAny_callSpecial?_slot (name := Str.ofString "__next__") hT slot_acc_next (wpAny_call_entry slot_acc_next hT entry_acc_next ?_ (args_acc_next _))))
  show wpAny _ _ (field (.ref a) 3 >>= _) _ _ s
  refine wpAny_bind (wpAny_field ha rfl (x := .none) rfl ?_)
  show wpAny _ _ (field (.ref a) 0 >>= _) _ _ s
  refine wpAny_bind (wpAny_field ha rfl (x := .ref it) rfl ?_)
  refine wpAny_bind (raw_end hh1 hit ht hx fun h' x he hx' => ?_)
  obtain ⟨o, ho, hc⟩ := hx'
  refine wpAny_bind (wpAny_isInstance (T := "StopIteration") (b := true) ⟨o, ho, hc⟩ isSubtype_stop ?_)
  exact wpAny_pure (hQ _ he)
theorem acc_iter {a it : Addr} {S : Int} {tk : Tok} {Q : Value → Shared → Prop} (ha : IsAcc s.heap a it S tk) (h : Q (.ref a) s) : wpAny (model prog w) A (pyIter (.ref a)) Q E s := by
  have hT : s.TypeIs (.ref a) "itertools.accumulate" := ⟨_, ha, rfl⟩
  refine wpAny_pyIter_slot hT slot_acc_iter (wpAny_call_entry slot_acc_iter hT entry_acc_iter ?_ (args_acc_iter _))
  show wpAny _ _ (ret (.ref a)) _ _ s
  exact wpAny_pure ⟨_, rfl, "itertools.accumulate", _, hT, slot_acc_next.lookup, h⟩
end
theorem walks_acc {prog : Program} {w : World} {A : Around} {a it t : Addr} {items : Array Value} {val : Nat → Int} (hh : A.handled = none) (hv : ∀ (i : Nat) (v : Value), items[i]? = some v → ∃ u, v = .int (val i) u) (h1 : a ≠ it) (h2 : t ≠ it) (h3 : t ≠ a) :
    WalksS prog w A a [a, it, t] [a, it] (fun x y => y = x) items.size (fun i v => ∃ u, v = .int (preSum val (i + 1)) u) (fun i s => (∃ tk, IsAcc s.heap a it (preSum val i) tk) ∧ s.heap.IsTupleIter it t i ∧ s.heap.IsTuple t items) where
  sub := fun b hb => by
    rcases List.mem_cons.mp hb with rfl | hb
    · simp
    · rw [List.mem_singleton.mp hb]; simp
  grefl := fun _ => rfl
  gtrans := fun _ _ _ q1 q2 => q2.trans q1
  frame := fun i s h' tk st _ hk => by
    obtain ⟨⟨k, q1⟩, ⟨o1, g1, r1⟩, ⟨o2, g2, r2⟩⟩ := st
    exact ⟨⟨k, hk a (by simp) _ q1⟩, ⟨o1, hk it (by simp) _ g1, r1⟩, ⟨o2, hk t (by simp) _ g2, r2⟩⟩
  item := fun i s Q E hi st hQ => by
    obtain ⟨⟨k, q1⟩, q2, q3⟩ := st
    have hg : items[i]? = some items[i] := Array.getElem?_eq_getElem hi
    obtain ⟨u, hu⟩ := hv i _ hg
    rw [hu] at hg
    refine acc_item q1 q2 q3 hg h1 h2 h3 fun h' v k2 a1 a2 a3 hk htk => ?_
    exact hQ _ _ ⟨v, rfl⟩ ⟨⟨v, a1⟩, a2, a3⟩ ⟨fun b o hb e => hk b o (fun z => hb (by simp [z])) (fun z => hb (by simp [z])) e, rfl, rfl, rfl, htk⟩
  done := fun s Q E st hQ => by
    obtain ⟨⟨k, q1⟩, q2, q3⟩ := st
    refine acc_end hh q1 q2 q3 (Array.getElem?_eq_none (Nat.le_refl _)) fun h' he => ?_
    exact hQ _ ⟨fun b o hb e => he b o (fun z => hb (by simp [z])) e, rfl, rfl, rfl, Nat.le_refl _⟩
  self := fun i s Q E st hQ => by
    obtain ⟨⟨k, q1⟩, _⟩ := st
    exact acc_iter q1 hQ
section
variable {prog : Program} {w : World} {A : Around} {E : Value → Shared → Prop} {s : Shared}
theorem sum_tup {t : Addr} {items : Array Value} {val : Nat → Int} {Q : Value → Shared → Prop} (hh : A.handled = none) (ht : s.heap.IsTuple t items) (hv : ∀ (i : Nat) (v : Value), items[i]? = some v → ∃ u, v = .int (val i) u)
    (hq : ∀ h' t' k, (∀ b o, s.heap.get? b = some o → h'.get? b = some o) → Q (.int (preSum val items.size) t') { s with heap := h', toks := k }) : wpAny (model prog w) A (call (.builtin "sum") [.ref t]) Q E s := by
  have lt : t < s.heap.objs.size := by obtain ⟨o, ho, _⟩ := ht; exact Heap.lt_size ho
  have hh1 : A.in1.handled = none := hh
  refine call_sum_walkG (wpAny_pyIter_tuple ht ?_)
  refine ⟨_, _, _, _, _, _, val, rfl, Walks.tuple hh1 s.heap.objs.size t (Nat.ne_of_lt lt) items, ⟨⟨_, Heap.get?_push_size _ rfl, rfl, rfl⟩, ht.push _⟩, fun b hb => ?_, hv, fun h' tk t' hk => ?_⟩
  · have e : (s.heap.push { cls := .type "tuple_iterator", data := .fields #[.ref t, .int 0 0] }).objs.size = s.heap.objs.size + 1 := Heap.size_push ..
    show b < (s.heap.push { cls := .type "tuple_iterator", data := .fields #[.ref t, .int 0 0] }).objs.size
    rw [e]
    rcases List.mem_cons.mp hb with rfl | hb
    · exact Nat.lt_succ_self _
    · rw [List.mem_singleton.mp hb]; exact Nat.lt_succ_of_lt lt
  · exact hq h' t' tk fun b o e => hk b o (fun z => absurd (List.mem_singleton.mp z) (Nat.ne_of_lt (Heap.lt_size e))) (Heap.get?_push_of_some _ e)
theorem sum_acc {t : Addr} {items : Array Value} {val : Nat → Int} {Q : Value → Shared → Prop} (hh : A.handled = none) (ht : s.heap.IsTuple t items) (hv : ∀ (i : Nat) (v : Value), items[i]? = some v → ∃ u, v = .int (val i) u)
    (hq : ∀ h' t' k, (∀ b o, s.heap.get? b = some o → h'.get? b = some o) → Q (.int (preSum (fun i => preSum val (i + 1)) items.size) t') { s with heap := h', toks := k }) :
    wpAny (model prog w) A (call (.type "itertools.accumulate") [.ref t]) (fun v s1 => wpAny (model prog w) A (call (.builtin "sum") [v]) Q E s1) E s := by
  have lt : t < s.heap.objs.size := by obtain ⟨o, ho, _⟩ := ht; exact Heap.lt_size ho
  have hh1 : A.in1.handled = none := hh
  refine call_acc (wpAny_pyIter_tuple ht ?_)
  have e1 : (s.heap.push { cls := .type "tuple_iterator", data := .fields #[.ref t, .int 0 0] }).objs.size = s.heap.objs.size + 1 := Heap.size_push ..
  intro h' g1 hk
  rw [show ({ s with heap := s.heap.push { cls := .type "tuple_iterator", data := .fields #[.ref t, .int 0 0] } } : Shared).heap.objs.size = s.heap.objs.size + 1 from e1] at g1 ⊢
  have git : h'.IsTupleIter s.heap.objs.size t 0 := ⟨_, hk _ _ (Heap.get?_push_size _ rfl), rfl, rfl⟩
  have gt : h'.IsTuple t items := (ht.push _).at fun o e => hk _ o e
  have W := walks_acc (A := A.in1) (prog := prog) (w := w) (a := s.heap.objs.size + 1) (it := s.heap.objs.size) (t := t) (items := items) hh1 hv (Nat.succ_ne_self _) (Nat.ne_of_lt lt) (Nat.ne_of_lt (Nat.lt_succ_of_lt lt))
  refine call_sum_walkAnyS (acc_iter g1 ?_)
  refine ⟨_, _, _, _, _, _, _, fun i => preSum val (i + 1), rfl, W, ⟨⟨0, g1⟩, git, gt⟩, fun b hb => ?_, fun i v hv => hv, fun s' t' hm => ?_⟩
  · have q1 := Heap.lt_size g1
    rcases List.mem_cons.mp hb with rfl | hb
    · exact q1
    · rcases List.mem_cons.mp hb with rfl | hb
      · exact Nat.lt_of_succ_lt q1
      · rw [List.mem_singleton.mp hb]; exact Nat.lt_trans lt (Nat.lt_of_succ_lt q1)
  · rw [Moved.eq_with hm]
    refine hq s'.heap t' s'.toks fun b o e => hm.heap b o (fun z => ?_) (hk b o (Heap.get?_push_of_some _ e))
    have hb := Heap.lt_size e
    rcases List.mem_cons.mp z with rfl | z
    · exact absurd hb (Nat.not_lt.mpr (Nat.le_succ _))
    · rw [List.mem_singleton.mp z] at hb
      exact Nat.lt_irrefl _ hb
end
end Ac
namespace L2
open PySem PySem.Spec PyProof.Rows
/-- the sum of the sums so far -/
def accI : Int → List Int → Int
  | _, [] => 0
  | S, b :: r => (S + b) + accI (S + b) r
theorem preSum_ext {f g : Nat → Int} : ∀ n, (∀ i, i < n → f i = g i) → preSum f n = preSum g n
  | 0, _ => rfl
  | n + 1, h => by
    show preSum f n + f n = preSum g n + g n
    rw [preSum_ext n (fun i hi => h i (Nat.lt_succ_of_lt hi)), h n (Nat.lt_succ_self n)]
theorem preSum_cons (f : Nat → Int) : ∀ n, preSum f (n + 1) = f 0 + preSum (fun i => f (i + 1)) n
  | 0 => by show (0 : Int) + f 0 = f 0 + 0; omega
  | n + 1 => by
    have := preSum_cons f n
    show preSum f (n + 1) + f (n + 1) = f 0 + (preSum (fun i => f (i + 1)) n + f (n + 1))
    rw [this]
    omega
theorem preSum_add (c : Int) (f : Nat → Int) : ∀ n, preSum (fun i => c + f i) n = n * c + preSum f n
  | 0 => by show (0 : Int) = ((0 : Nat) : Int) * c + 0; simp
  | n + 1 => by
    show preSum (fun i => c + f i) n + (c + f n) = ((n + 1 : Nat) : Int) * c + (preSum f n + f n)
    rw [preSum_add c f n, Int.natCast_add, Int.add_mul]
    simp only [Int.natCast_one, Int.one_mul]
    omega
theorem accI_add : ∀ (S : Int) (ns : List Int), accI S ns = ns.length * S + accI 0 ns
  | S, [] => by simp [accI]
  | S, b :: r => by
    show S + b + accI (S + b) r = ((r.length + 1 : Nat) : Int) * S + (0 + b + accI (0 + b) r)
    rw [accI_add (S + b) r, accI_add (0 + b) r, Int.natCast_add, Int.add_mul, Int.mul_add]
    simp only [Int.natCast_one, Int.one_mul, Int.zero_add]
    omega
theorem pre_sum : ∀ (ns : List Int) (val : Nat → Int), (∀ i b, ns[i]? = some b → val i = b) → preSum val ns.length = ns.sum
  | [], _, _ => rfl
  | b :: r, val, h => by
    rw [List.length_cons, preSum_cons, h 0 b rfl, pre_sum r (fun i => val (i + 1)) (fun i c hc => h (i + 1) c hc), List.sum_cons]
theorem pre_acc : ∀ (ns : List Int) (val : Nat → Int), (∀ i b, ns[i]? = some b → val i = b) → preSum (fun i => preSum val (i + 1)) ns.length = accI 0 ns
  | [], _, _ => rfl
  | b :: r, val, h => by
    rw [List.length_cons, preSum_cons]
    have e : preSum (fun i => preSum val (i + 1 + 1)) r.length = preSum (fun i => b + preSum (fun i => val (i + 1)) (i + 1)) r.length := preSum_ext _ fun i _ => by
      show preSum val (i + 1 + 1) = _
      rw [preSum_cons, h 0 b rfl]
    show preSum val (0 + 1) + preSum (fun i => preSum val (i + 1 + 1)) r.length = _
    rw [e, preSum_add, pre_acc r (fun i => val (i + 1)) (fun i c hc => h (i + 1) c hc)]
    show (0 : Int) + val 0 + (r.length * b + accI 0 r) = 0 + b + accI (0 + b) r
    rw [h 0 b rfl, accI_add (0 + b) r]
    simp only [Int.zero_add]
theorem ints_val {ns : List Int} {its : List Value} (rv : Vals (ns.map V.int) its) : ∀ (i : Nat) (v : Value), its.toArray[i]? = some v → ∃ u, v = .int (ns[i]?.getD 0) u := fun i v hv => by
  have hv' : its[i]? = some v := by simpa using hv
  have hi : i < ns.length := by
    have e := rv.length
    rw [List.length_map] at e
    have := (List.getElem?_eq_some_iff.mp hv').1
    omega
  obtain ⟨u2, hu2, rx⟩ := rv.get (i := i) (x := V.int ns[i]) (by rw [List.getElem?_map, List.getElem?_eq_getElem hi]; rfl)
  obtain rfl : u2 = v := Option.some.inj (hu2.symm.trans hv')
  obtain ⟨t, rfl⟩ := rx
  exact ⟨t, by rw [List.getElem?_eq_getElem hi]; rfl⟩
theorem val_get {ns : List Int} : ∀ (i : Nat) (b : Int), ns[i]? = some b → (fun i : Nat => ns[i]?.getD 0) i = b := fun i b h => by
  show ns[i]?.getD 0 = b
  rw [h]
  rfl
section
variable {X : Cx}
/-- sum(t) of a list or tuple of ints -/
def rSumA (K : PySem.W.Frag) : List V → Hp → VK → Prop := fun vs H Q => ∃ (a : Addr) (ns : List Int), vs = [V.ref a] ∧ (SqL K H a (ns.map V.int) ∨ SqT K H a (ns.map V.int)) ∧ Q (.int ns.sum) H
theorem cr_sumA (hc : X.calm = true) : CallR X (.builtin "sum") (rSumA X.K) := by
  intro pins s σ H vs us Q I r h
  obtain ⟨a, ns, rfl, hs, q⟩ := h
  rcases hs with hs | hs
  · exact cr_sum hc pins s σ H [V.ref a] us Q I r ⟨a, ns, rfl, hs, q⟩
  obtain ⟨its, rv, hl, _⟩ := I.tuple hs
  rw [Vals.ref1 r]
  refine Ac.sum_tup (val := fun i : Nat => ns[i]?.getD 0) (I.ok.hd hc) hl (ints_val rv) fun h' t' k hk => ⟨.int _, H, I.kept hk, ⟨_, rfl⟩, ?_⟩
  have e : its.toArray.size = ns.length := by have := rv.length; rw [List.length_map] at this; simp only [List.size_toArray]; omega
  rw [e, pre_sum ns _ val_get]
  exact q
/-- sum(accumulate(t)) of a tuple of ints -/
def tSumAcc (K : PySem.W.Frag) (ta : TA) : TE := fun σ H Q => ta σ H fun vs H2 => ∃ (q : Addr) (ns : List Int), vs = [V.ref q] ∧ SqT K H2 q (ns.map V.int) ∧ Q (.int (accI 0 ns)) H2
theorem pe_sumAcc {e : Expr} {ta : TA} {p0 pos p pos2 : Pos} (hc : X.calm = true) (hgs : Gl X "sum") (hms : X.mg "sum" = none) (hg : Gl X "accumulate") (hm : X.mg "accumulate" = some (.type "itertools.accumulate")) (ha : PA X [e] ta)
    (hs1 : starEach [.Call (.Name "accumulate" p) [e] [] pos2] X.env = (false, eval (.Call (.Name "accumulate" p) [e] [] pos2) X.env) :: starEach [] X.env := by rfl)
    (hp1 : (backTo pos (starEach [] X.env)).any (·.1) = false := by rfl) (hs : starEach [e] X.env = (false, eval e X.env) :: starEach [] X.env := by rfl) (hpl : (backTo pos2 (starEach [] X.env)).any (·.1) = false := by rfl) :
    PE X (.Call (.Name "sum" p0) [.Call (.Name "accumulate" p) [e] [] pos2] [] pos) (tSumAcc X.K ta) := by
  refine ⟨fun pins s σ H Q I h => ?_⟩
  refine wpAny_Call_Name_kw (ld_blt I hgs hms boot_sum ?_)
  refine PyProof.Rows.callWith_builtin1 ?_ hs1 hp1
  rw [hs1]
  show wpAny _ _ (spliced ((false, eval (.Call (.Name "accumulate" p) [e] [] pos2) X.env) :: backTo pos (starEach [] X.env))) _ _ s
  refine Calls.spliced_cons ?_
  refine wpAny_Call_Name_kw (ld_glob I hg hm ?_ (by decide))
  refine PyProof.Rows.callWith_type1 ?_ hs hpl
  refine thn (ha.run pos2 pins s σ H _ I h) fun us s3 ⟨vs, H2, I3, r3, q3⟩ => ?_
  obtain ⟨q, ns, rfl, hq, q3⟩ := q3
  rw [Vals.ref1 r3]
  obtain ⟨its, rv, hl, _⟩ := I3.tuple hq
  refine wpAny_mono (Ac.sum_acc (val := fun i : Nat => ns[i]?.getD 0) (Q := EP X pins σ Q) (E := X.xe) (I3.ok.hd hc) hl (ints_val rv) fun h' t' k hk => ?_) (fun v s4 h4 => Calls.spliced_nil h4) fun _ _ z => z
  have e : its.toArray.size = ns.length := by have := rv.length; rw [List.length_map] at this; simp only [List.size_toArray]; omega
  rw [e, pre_acc ns _ val_get]
  exact ⟨.int _, H2, I3.kept hk, ⟨t', rfl⟩, q3⟩
theorem w_sumAcc {K : PySem.W.Frag} {ta : TA} {σ : St} {H : Hp} {Q : VK} (h : ta σ H fun vs H2 => ∃ (q : Addr) (ns : List Int), vs = [V.ref q] ∧ SqT K H2 q (ns.map V.int) ∧ Q (.int (accI 0 ns)) H2) : tSumAcc K ta σ H Q := h
end
end L2
end

section
-- part Fal
set_option Elab.async false
set_option linter.all false
set_option maxRecDepth 100000
set_option maxHeartbeats 1000000
/-! Fal: sum(accumulate(l)) of a list, too -/
namespace Ac
open PySem PySem.Spec PyProof.Rows
section
variable {prog : Program} {w : World} {A : Around} {E : Value → Shared → Prop} {s : Shared}
/-- one item of a list's iterator, asked for by its slot -/
theorem raw_itemL {it t : Addr} {i : Nat} {items : Array Value} {x : Value} {Q : Value → Shared → Prop} (hit : s.heap.IsListIter it t i) (ht : s.heap.IsList t items) (hx : items[i]? = some x)
    (hQ : ∀ h', h'.IsListIter it t (i + 1) → Heap.SameBut it s.heap h' → Q x { s with heap := h' }) : wpAny (model prog w) A (Builtin.Itertools.itRawNext (.ref it)) Q E s := by
  obtain ⟨o1, g1, c1, d1⟩ := id hit
  obtain ⟨o2, g2, _, n2, d2⟩ := ht
  unfold Builtin.Itertools.itRawNext
  refine wpAny_bind (wpAny_callSpecial?_slot (name := Str.ofString "__next__") hit.typeIs slot_listiter_next (wpAny_call_entry slot_listiter_next hit.typeIs entry_listiter_next ?_ (args_listiter_next _)))
  show wpAny _ _ (field (.ref it) 0 >>= _) _ _ s
  refine wpAny_bind (wpAny_field g1 d1 (x := .ref t) rfl ?_)
  show wpAny _ _ (if (Value.ref t == Value.none) = true then _ else _) _ _ s
  rw [if_neg (fun z : (Value.ref t == Value.none) = true => Bool.false_ne_true z)]
  show wpAny _ _ (field (.ref it) 1 >>= _) _ _ s
  refine wpAny_bind (wpAny_field g1 d1 (x := .int i 0) rfl ?_)
  show wpAny _ _ (seqItems? (.ref t) >>= _) _ _ s
  refine wpAny_bind (wpAny_seqItems g2 d2 ?_)
  simp only [Int.toNat_natCast, hx]
  refine wpAny_bind (wpAny_setField g1 d1 (by simp) (wpAny_pure ⟨x, rfl, wpAny_pure (hQ _ ⟨_, Heap.get?_update_self _ g1 (Obj.isFreed_of_fields (Obj.data_mapFields d1 _)), (Obj.cls_mapFields ..).trans c1, ?_⟩ (Heap.SameBut.update ..))⟩))
  rw [Obj.data_mapFields d1]
  simp [rawInt]
theorem raw_endL {it t : Addr} {i : Nat} {items : Array Value} {Q : Value → Shared → Prop} (hh : A.handled = none) (hit : s.heap.IsListIter it t i) (ht : s.heap.IsList t items) (hx : items[i]? = none)
    (hE : ∀ h' e, Heap.ExtBut it s.heap h' → (∃ o, h'.get? e = some o ∧ o.cls = .type "StopIteration") → E (.ref e) { s with heap := h' }) : wpAny (model prog w) A (Builtin.Itertools.itRawNext (.ref it)) Q E s := by
  obtain ⟨o1, g1, c1, d1⟩ := id hit
  obtain ⟨o2, g2, _, n2, d2⟩ := ht
  unfold Builtin.Itertools.itRawNext
  refine wpAny_bind (wpAny_callSpecial?_slot (name := Str.ofString "__next__") hit.typeIs slot_listiter_next (wpAny_call_entry slot_listiter_next hit.typeIs entry_listiter_next ?_ (args_listiter_next _)))
  show wpAny _ _ (field (.ref it) 0 >>= _) _ _ s
  refine wpAny_bind (wpAny_field g1 d1 (x := .ref t) rfl ?_)
  show wpAny _ _ (if (Value.ref t == Value.none) = true then _ else _) _ _ s
  rw [if_neg (fun z : (Value.ref t == Value.none) = true => Bool.false_ne_true z)]
  show wpAny _ _ (field (.ref it) 1 >>= _) _ _ s
  refine wpAny_bind (wpAny_field g1 d1 (x := .int i 0) rfl ?_)
  show wpAny _ _ (seqItems? (.ref t) >>= _) _ _ s
  refine wpAny_bind (wpAny_seqItems g2 d2 ?_)
  simp only [Int.toNat_natCast, hx]
  refine wpAny_bind (wpAny_rule (wpAny_bind (wpAny_setField g1 d1 (by simp) ?_)))
  show wpAny _ _ (newExc (.type "StopIteration") [] >>= _) _ _ _
  refine wpAny_bind ?_
  simp only [newExc, newTuple]
  refine wpAny_bind (wpAny_newObj_type ?_ (by size_fits))
  refine wpAny_bind (m := firstArgMember _ _) (wpAny_of_eq (a := Value.none) (by first | rfl | (simp only [firstArgMember]; rfl)) ?_)
  refine wpAny_newObj_type ?_ (by size_fits)
  simp only [raiseNew]
  refine wpAny_bind (wpAny_handled ?_)
  first | rw [show A.in1.handled = none from hh] | rw [hh]
  refine wpAny_bind (wpAny_pure (wpAny_throw ?_))
  exact hE _ _ (((Heap.SameBut.update ..).extBut.push _).push _) ⟨_, Heap.get?_push_size _ rfl, rfl⟩
/-- the next total -/
theorem acc_itemL {a it t : Addr} {i : Nat} {items : Array Value} {S b : Int} {tk u : Tok} {Q : Option Value → Shared → Prop} (ha : IsAcc s.heap a it S tk) (hit : s.heap.IsListIter it t i) (ht : s.heap.IsList t items) (hx : items[i]? = some (.int b u)) (h1 : a ≠ it) (h2 : t ≠ it) (h3 : t ≠ a)
    (hQ : ∀ h' v k, IsAcc h' a it (S + b) v → h'.IsListIter it t (i + 1) → h'.IsList t items → (∀ c o, c ≠ it → c ≠ a → s.heap.get? c = some o → h'.get? c = some o) → s.toks ≤ k → Q (some (.int (S + b) v)) { s with heap := h', toks := k }) :
    wpAny (model prog w) A (pyNext (.ref a)) Q E s := by
  have hT : s.TypeIs (.ref a) "itertools.accumulate" := ⟨_, ha, rfl⟩
  unfold pyNext
  refine wpAny_bind (wpAny_attempt (wpAny_callSpecial?_slot (name := Str.ofString "__next__") hT slot_acc_next (wpAny_call_entry slot_acc_next hT entry_acc_next ?_ (args_acc_next _))))
  show wpAny _ _ (field (.ref a) 3 >>= _) _ _ s
  refine wpAny_bind (wpAny_field ha rfl (x := .none) rfl ?_)
  show wpAny _ _ (field (.ref a) 0 >>= _) _ _ s
  refine wpAny_bind (wpAny_field ha rfl (x := .ref it) rfl ?_)
  refine wpAny_bind (raw_itemL hit ht hx fun h' hit' hs => ?_)
  have ha' : IsAcc h' a it S tk := (hs.2 a h1).trans ha
  have ht' : h'.IsList t items := ht.extBut hs.extBut h2
  show wpAny _ _ (field (.ref a) 2 >>= _) _ _ _
  refine wpAny_bind (wpAny_field ha' rfl (x := .int S tk) rfl ?_)
  have upd2 : ∀ (x : Value), (h'.update a (Obj.mapFields fun y => y.setIfInBounds 2 x)).get? a = some { cls := .type "itertools.accumulate", dict := none, data := .fields #[.ref it, .none, x, .none], slots := #[] } := fun x => Heap.get?_update_self _ ha' rfl
  have oth : ∀ (x : Value) c o, c ≠ a → h'.get? c = some o → (h'.update a (Obj.mapFields fun y => y.setIfInBounds 2 x)).get? c = some o := fun x c o hc e => (Heap.get?_update_other _ _ (Ne.symm hc)).trans e
  obtain ⟨o1, g1, r1⟩ := hit'
  obtain ⟨o2, g2, r2⟩ := ht'
  by_cases hz : (Value.int S tk == Builtin.Itertools.itNothing) = true
  · obtain rfl : S = 0 := by
      simp [Builtin.Itertools.itNothing, rawInt] at hz
      exact hz.1
    show wpAny _ _ (if (Value.int 0 tk == Builtin.Itertools.itNothing) = true then _ else _) _ _ _
    rw [if_pos hz]
    refine wpAny_bind (wpAny_rule ?_)
    refine wpAny_bind (wpAny_setField ha' rfl (by simp) ?_)
    refine wpAny_pure ⟨_, rfl, ?_⟩
    have e0 : (0 : Int) + b = b := Int.zero_add b
    rw [e0] at hQ
    exact wpAny_pure (hQ _ u s.toks (upd2 _) ⟨o1, oth _ _ _ (Ne.symm h1) g1, r1⟩ ⟨o2, oth _ _ _ h3 g2, r2⟩ (fun c o c1 c2 e => oth _ _ _ c2 (hs.extBut c o c1 e)) (Nat.le_refl _))
  · show wpAny _ _ (if (Value.int S tk == Builtin.Itertools.itNothing) = true then _ else _) _ _ _
    rw [if_neg hz]
    show wpAny _ _ (field (.ref a) 1 >>= _) _ _ _
    refine wpAny_bind (wpAny_field ha' rfl (x := .none) rfl ?_)
    refine wpAny_bind (wpAny_holding ?_)
    show wpAny _ _ (binaryOp .Add (.int S tk) (.int b u)) _ _ _
    refine PyProof.Rows.add_int ?_
    refine wpAny_bind (wpAny_setField ha' rfl (by simp) ?_)
    refine wpAny_bind (wpAny_letGo ?_)
    refine wpAny_pure ⟨_, rfl, ?_⟩
    exact wpAny_pure (hQ _ _ (s.toks + 1) (upd2 _) ⟨o1, oth _ _ _ (Ne.symm h1) g1, r1⟩ ⟨o2, oth _ _ _ h3 g2, r2⟩ (fun c o c1 c2 e => oth _ _ _ c2 (hs.extBut c o c1 e)) (Nat.le_succ _))
theorem acc_endL {a it t : Addr} {i : Nat} {items : Array Value} {S : Int} {tk : Tok} {Q : Option Value → Shared → Prop} (hh : A.handled = none) (ha : IsAcc s.heap a it S tk) (hit : s.heap.IsListIter it t i) (ht : s.heap.IsList t items) (hx : items[i]? = none)
    (hQ : ∀ h', Heap.ExtBut it s.heap h' → Q none { s with heap := h' }) : wpAny (model prog w) A (pyNext (.ref a)) Q E s := by
  have hT : s.TypeIs (.ref a) "itertools.accumulate" := ⟨_, ha, rfl⟩
  have hh1 : A.in1.handled = none := hh
  unfold pyNext
  refine wpAny_bind (wpAny_attempt (wpAny_callSpecial?_slot (name := Str.ofString "__next__") hT slot_acc_next (wpAny_call_entry slot_acc_next hT entry_acc_next ?_ (args_acc_next _))))
  show wpAny _ _ (field (.ref a) 3 >>= _) _ _ s
  refine wpAny_bind (wpAny_field ha rfl (x := .none) rfl ?_)
  show wpAny _ _ (field (.ref a) 0 >>= _) _ _ s
  refine wpAny_bind (wpAny_field ha rfl (x := .ref it) rfl ?_)
  refine wpAny_bind (raw_endL hh1 hit ht hx fun h' x he hx' => ?_)
  obtain ⟨o, ho, hc⟩ := hx'
  refine wpAny_bind (wpAny_isInstance (T := "StopIteration") (b := true) ⟨o, ho, hc⟩ isSubtype_stop ?_)
  exact wpAny_pure (hQ _ he)
end
theorem walks_accL {prog : Program} {w : World} {A : Around} {a it t : Addr} {items : Array Value} {val : Nat → Int} (hh : A.handled = none) (hv : ∀ (i : Nat) (v : Value), items[i]? = some v → ∃ u, v = .int (val i) u) (h1 : a ≠ it) (h2 : t ≠ it) (h3 : t ≠ a) :
    WalksS prog w A a [a, it, t] [a, it] (fun x y => y = x) items.size (fun i v => ∃ u, v = .int (preSum val (i + 1)) u) (fun i s => (∃ tk, IsAcc s.heap a it (preSum val i) tk) ∧ s.heap.IsListIter it t i ∧ s.heap.IsList t items) where
  sub := fun b hb => by
    rcases List.mem_cons.mp hb with rfl | hb
    · simp
    · rw [List.mem_singleton.mp hb]; simp
  grefl := fun _ => rfl
  gtrans := fun _ _ _ q1 q2 => q2.trans q1
  frame := fun i s h' tk st _ hk => by
    obtain ⟨⟨k, q1⟩, ⟨o1, g1, r1⟩, ⟨o2, g2, r2⟩⟩ := st
    exact ⟨⟨k, hk a (by simp) _ q1⟩, ⟨o1, hk it (by simp) _ g1, r1⟩, ⟨o2, hk t (by simp) _ g2, r2⟩⟩
  item := fun i s Q E hi st hQ => by
    obtain ⟨⟨k, q1⟩, q2, q3⟩ := st
    have hg : items[i]? = some items[i] := Array.getElem?_eq_getElem hi
    obtain ⟨u, hu⟩ := hv i _ hg
    rw [hu] at hg
    refine acc_itemL q1 q2 q3 hg h1 h2 h3 fun h' v k2 a1 a2 a3 hk htk => ?_
    exact hQ _ _ ⟨v, rfl⟩ ⟨⟨v, a1⟩, a2, a3⟩ ⟨fun b o hb e => hk b o (fun z => hb (by simp [z])) (fun z => hb (by simp [z])) e, rfl, rfl, rfl, htk⟩
  done := fun s Q E st hQ => by
    obtain ⟨⟨k, q1⟩, q2, q3⟩ := st
    refine acc_endL hh q1 q2 q3 (Array.getElem?_eq_none (Nat.le_refl _)) fun h' he => ?_
    exact hQ _ ⟨fun b o hb e => he b o (fun z => hb (by simp [z])) e, rfl, rfl, rfl, Nat.le_refl _⟩
  self := fun i s Q E st hQ => by
    obtain ⟨⟨k, q1⟩, _⟩ := st
    exact acc_iter q1 hQ
section
variable {prog : Program} {w : World} {A : Around} {E : Value → Shared → Prop} {s : Shared}
theorem sum_accL {t : Addr} {items : Array Value} {val : Nat → Int} {Q : Value → Shared → Prop} (hh : A.handled = none) (ht : s.heap.IsList t items) (hv : ∀ (i : Nat) (v : Value), items[i]? = some v → ∃ u, v = .int (val i) u)
    (hq : ∀ h' t' k, (∀ b o, s.heap.get? b = some o → h'.get? b = some o) → Q (.int (preSum (fun i => preSum val (i + 1)) items.size) t') { s with heap := h', toks := k }) :
    wpAny (model prog w) A (call (.type "itertools.accumulate") [.ref t]) (fun v s1 => wpAny (model prog w) A (call (.builtin "sum") [v]) Q E s1) E s := by
  have lt : t < s.heap.objs.size := by obtain ⟨o, ho, _⟩ := ht; exact Heap.lt_size ho
  have hh1 : A.in1.handled = none := hh
  refine call_acc (wpAny_pyIter_list ht ?_)
  have e1 : (s.heap.push { cls := .type "list_iterator", data := .fields #[.ref t, .int 0 0] }).objs.size = s.heap.objs.size + 1 := Heap.size_push ..
  intro h' g1 hk
  rw [show ({ s with heap := s.heap.push { cls := .type "list_iterator", data := .fields #[.ref t, .int 0 0] } } : Shared).heap.objs.size = s.heap.objs.size + 1 from e1] at g1 ⊢
  have git : h'.IsListIter s.heap.objs.size t 0 := ⟨_, hk _ _ (Heap.get?_push_size _ rfl), rfl, rfl⟩
  have gt : h'.IsList t items := (ht.push _).at fun o e => hk _ o e
  have W := walks_accL (A := A.in1) (prog := prog) (w := w) (a := s.heap.objs.size + 1) (it := s.heap.objs.size) (t := t) (items := items) hh1 hv (Nat.succ_ne_self _) (Nat.ne_of_lt lt) (Nat.ne_of_lt (Nat.lt_succ_of_lt lt))
  refine call_sum_walkAnyS (acc_iter g1 ?_)
  refine ⟨_, _, _, _, _, _, _, fun i => preSum val (i + 1), rfl, W, ⟨⟨0, g1⟩, git, gt⟩, fun b hb => ?_, fun i v hv => hv, fun s' t' hm => ?_⟩
  · have q1 := Heap.lt_size g1
    rcases List.mem_cons.mp hb with rfl | hb
    · exact q1
    · rcases List.mem_cons.mp hb with rfl | hb
      · exact Nat.lt_of_succ_lt q1
      · rw [List.mem_singleton.mp hb]; exact Nat.lt_trans lt (Nat.lt_of_succ_lt q1)
  · rw [Moved.eq_with hm]
    refine hq s'.heap t' s'.toks fun b o e => hm.heap b o (fun z => ?_) (hk b o (Heap.get?_push_of_some _ e))
    have hb := Heap.lt_size e
    rcases List.mem_cons.mp z with rfl | z
    · exact absurd hb (Nat.not_lt.mpr (Nat.le_succ _))
    · rw [List.mem_singleton.mp z] at hb
      exact Nat.lt_irrefl _ hb
end
end Ac
namespace L2
open PySem PySem.Spec PyProof.Rows
section
variable {X : Cx}
/-- sum(accumulate(t)) of a tuple or a list of ints -/
def tSumAc2 (K : PySem.W.Frag) (ta : TA) : TE := fun σ H Q => ta σ H fun vs H2 => ∃ (q : Addr) (ns : List Int), vs = [V.ref q] ∧ (SqL K H2 q (ns.map V.int) ∨ SqT K H2 q (ns.map V.int)) ∧ Q (.int (accI 0 ns)) H2
theorem pe_sumAc2 {e : Expr} {ta : TA} {p0 pos p pos2 : Pos} (hc : X.calm = true) (hgs : Gl X "sum") (hms : X.mg "sum" = none) (hg : Gl X "accumulate") (hm : X.mg "accumulate" = some (.type "itertools.accumulate")) (ha : PA X [e] ta)
    (hs1 : starEach [.Call (.Name "accumulate" p) [e] [] pos2] X.env = (false, eval (.Call (.Name "accumulate" p) [e] [] pos2) X.env) :: starEach [] X.env := by rfl)
    (hp1 : (backTo pos (starEach [] X.env)).any (·.1) = false := by rfl) (hs : starEach [e] X.env = (false, eval e X.env) :: starEach [] X.env := by rfl) (hpl : (backTo pos2 (starEach [] X.env)).any (·.1) = false := by rfl) :
    PE X (.Call (.Name "sum" p0) [.Call (.Name "accumulate" p) [e] [] pos2] [] pos) (tSumAc2 X.K ta) := by
  refine ⟨fun pins s σ H Q I h => ?_⟩
  refine wpAny_Call_Name_kw (ld_blt I hgs hms boot_sum ?_)
  refine PyProof.Rows.callWith_builtin1 ?_ hs1 hp1
  rw [hs1]
  show wpAny _ _ (spliced ((false, eval (.Call (.Name "accumulate" p) [e] [] pos2) X.env) :: backTo pos (starEach [] X.env))) _ _ s
  refine Calls.spliced_cons ?_
  refine wpAny_Call_Name_kw (ld_glob I hg hm ?_ (by decide))
  refine PyProof.Rows.callWith_type1 ?_ hs hpl
  refine thn (ha.run pos2 pins s σ H _ I h) fun us s3 ⟨vs, H2, I3, r3, q3⟩ => ?_
  obtain ⟨q, ns, rfl, hq, q3⟩ := q3
  rw [Vals.ref1 r3]
  have fin : ∀ {its : List Value} (rv : Vals (ns.map V.int) its) (h' : Heap) (t' : Tok) (k : Nat), (∀ b o, s3.heap.get? b = some o → h'.get? b = some o) → EP X pins σ Q (.int (preSum (fun i => preSum (fun i : Nat => ns[i]?.getD 0) (i + 1)) its.toArray.size) t') { s3 with heap := h', toks := k } := fun {its} rv h' t' k hk => by
    have e : its.toArray.size = ns.length := by have := rv.length; rw [List.length_map] at this; simp only [List.size_toArray]; omega
    rw [e, pre_acc ns _ val_get]
    exact ⟨.int _, H2, I3.kept hk, ⟨t', rfl⟩, q3⟩
  rcases hq with hq | hq
  · obtain ⟨its, rv, hl, _⟩ := I3.list hq
    exact wpAny_mono (Ac.sum_accL (val := fun i : Nat => ns[i]?.getD 0) (Q := EP X pins σ Q) (E := X.xe) (I3.ok.hd hc) hl.isList (ints_val rv) (fin rv)) (fun v s4 h4 => Calls.spliced_nil h4) fun _ _ z => z
  · obtain ⟨its, rv, hl, _⟩ := I3.tuple hq
    exact wpAny_mono (Ac.sum_acc (val := fun i : Nat => ns[i]?.getD 0) (Q := EP X pins σ Q) (E := X.xe) (I3.ok.hd hc) hl (ints_val rv) (fin rv)) (fun v s4 h4 => Calls.spliced_nil h4) fun _ _ z => z
theorem w_sumAc2 {K : PySem.W.Frag} {ta : TA} {σ : St} {H : Hp} {Q : VK} (h : ta σ H fun vs H2 => ∃ (q : Addr) (ns : List Int), vs = [V.ref q] ∧ (SqL K H2 q (ns.map V.int) ∨ SqT K H2 q (ns.map V.int)) ∧ Q (.int (accI 0 ns)) H2) : tSumAc2 K ta σ H Q := h
end
end L2
end

section
-- part Fgn
set_option Elab.async false
set_option linter.all false
set_option maxRecDepth 100000
set_option maxHeartbeats 2000000
/-! Fgn: any, all of a test over a tuple of ints, the def's table of code objects kept by names -/
namespace GnI
open PySem PySem.Spec PyProof.Rows L2 LamX
open GxR (GenS keeps_refl keeps_tok sh_eta passing_true)
/-- the test of an int -/
def EltI (prog : Program) (w : World) (scope : Scope) (x : Str) (elt : Expr) (pb : Int → Bool) : Prop :=
  ∀ (ce : Env) (B : Around) (F : Value → Shared → Prop) (c : Int) (t : Tok) (z : Shared) (m : Str → Option Value), ce.scope = scope → z.heap.Ns ce.locals m → m x = some (.int c t) →
    wpAny (model prog w) B (eval elt ce) (fun y z' => y = .bool (pb c) ∧ Keeps z z') F z
/-- x != k -/
theorem eltI_ne {prog : Program} {w : World} {scope : Scope} {x : Str} {k : Int} {j : Nat} {p1 p2 p3 : Pos} (hk : scope.kind = .function) (hl : scope.names.lookup x = some .local) (hd : (x == ("__debug__" : Str)) = false := by decide) :
    EltI prog w scope x (.Compare (.Name x p1) [.NotEq] [.Constant (.int k) j p2] p3) (fun c => c != k) := by
  intro ce B F c t z m hs hn hm
  refine wpAny_Compare1 (wpAny_Name (wpAny_loadName_local (by rw [hs]; exact hk) (show ce.scope.names.lookup x = some .local by rw [hs]; exact hl) hn hm ?_) hd)
  refine wpAny_Constant_int ?_
  exact PyProof.Rows.ne_int ⟨rfl, keeps_tok _ _⟩
def genSB (scope : Scope) (x : Str) : Bool := decide (scope.kind = .function) && !scope.isCoroutine && decide (scope.names.lookup (".0" : Str) = some NameKind.local) && decide (scope.names.lookup x = some .local) && scope.names.all fun y => !decide (y.2 = .cell) && !decide (y.2 = .free)
theorem genS_by {env : Env} {scope : Scope} {x : Str} (h : genSB scope x = true) : GenS env scope x := by
  unfold genSB at h
  simp only [Bool.and_eq_true, Bool.not_eq_true', decide_eq_true_eq, decide_eq_false_iff_not, List.all_eq_true] at h
  obtain ⟨⟨⟨⟨h1, h2⟩, h3⟩, h4⟩, h5⟩ := h
  exact ⟨h1, h2, fun y hy => (h5 y hy).1, h3, h4, fun y hy e => absurd e (h5 y hy).2⟩
/-- the test at place j -/
def trI (pb : Int → Bool) (l : List Int) (j : Nat) : Bool := (l[j]?).elim false pb
theorem trI_some {pb : Int → Bool} {l : List Int} {j : Nat} {b : Int} (h : l[j]? = some b) : trI pb l j = pb b := by show (l[j]?).elim false pb = pb b; rw [h]; rfl
theorem any_trI (l : List Int) (pb : Int → Bool) : (List.range l.length).any (trI pb l) = l.any pb := by
  rw [Bool.eq_iff_iff, List.any_eq_true, List.any_eq_true]
  refine ⟨fun ⟨j, hj, h⟩ => ?_, fun ⟨b, hb, h⟩ => ?_⟩
  · have hl := List.mem_range.mp hj
    exact ⟨l[j], List.getElem_mem hl, by rw [← trI_some (pb := pb) (List.getElem?_eq_getElem hl)]; exact h⟩
  · obtain ⟨j, hl, e⟩ := List.getElem_of_mem hb
    exact ⟨j, List.mem_range.mpr hl, by rw [trI_some (List.getElem?_eq_getElem hl), e]; exact h⟩
theorem all_trI (l : List Int) (pb : Int → Bool) : (List.range l.length).all (trI pb l) = l.all pb := by
  rw [Bool.eq_iff_iff, List.all_eq_true, List.all_eq_true]
  refine ⟨fun h b hb => ?_, fun h j hj => ?_⟩
  · obtain ⟨j, hl, e⟩ := List.getElem_of_mem hb
    have := h j (List.mem_range.mpr hl)
    rwa [trI_some (List.getElem?_eq_getElem hl), e] at this
  · have hl := List.mem_range.mp hj
    rw [trI_some (List.getElem?_eq_getElem hl)]
    exact h _ (List.getElem_mem hl)
variable {X : Cx} {pins : List (Addr × Obj)} {σ : L2.St} {H : Hp} {s : Shared}
/-- the generator g over the ints ns, ready to be walked, in the state z -/
def Ready (X : Cx) (pins : List (Addr × Obj)) (σ : L2.St) (H1 : Hp) (T : List (Addr × Str)) (ns : List Int) (pb : Int → Bool) (g : Addr) (z : Shared) : Prop :=
  ∃ (fp wr : List Addr) (G : Array GenState → Array GenState → Prop) (F : Nat → Value → Prop) (St : Nat → Shared → Prop),
    WalksS X.prog X.w X.A.in1 g fp wr G ns.length F St ∧ St 0 z ∧ TruthOf X.prog X.w X.A.in1 F (trI pb ns) ∧ ∀ z', Moved wr G z z' → ∃ H2, ExtN H1 H2 ∧ Tabs T H2 ∧ Inv X pins σ H2 z'
theorem moved_inv {g' : Array GenState} {d' : Drawn} {t' : Nat} {h' : Heap} (I : Inv X pins σ H s) (k : ∀ b o, s.heap.get? b = some o → h'.get? b = some o) (hg : AllBare g') : Inv X pins σ H { s with heap := h', gens := g', drawn := d', toks := t' } := by
  refine I.step (g' := g') (d' := d') (ch := []) (fun b hb => nomatch hb) (fun b o _ _ _ e n => k b o e) (fun b o _ _ _ e n => ⟨o.slots, k b o e⟩) (fun b o _ e n => n) (fun b o _ e => ⟨o, k b o e⟩) (fun b xs e => e) (fun b o u e => e) (fun b qs e => by rw [e]; exact ⟨#[], by simp⟩)
    (fun m hn => ?_) (fun b u e => (I.hok b u e).stay (fun d v _ q => k d v q) (fun d q => q) fun d xs q => q) hg
  obtain ⟨ob, es, ep, ho, r⟩ := hn
  exact ⟨ob, es, ep, k _ ob ho, r⟩
theorem gen_ints {T : List (Addr × Str)} {c P : Addr} {elt iter : Expr} {x : Str} {px gpos : Pos} {scope : Scope} {pb : Int → Bool} {te : TE} {k : Nat} {Q' : Value → Shared → Prop} {R : Addr → List Int → Hp → Prop}
    (hr : Room k X.A) (TB : TabB X.base X.mg c P) (hcode : X.env.code = .ref c) (hm : (P, X.env.qual ++ "<genexpr>") ∈ T) (hu : ∀ p ∈ T, p.1 = P → p.2 = X.env.qual ++ "<genexpr>") (S : GenS X.env scope x) (hi : PE X iter te) (hel : EltI X.prog X.w scope x elt pb)
    (hs : ∀ v, genFold iter X.env v = pure v) (I : Inv X pins σ H s) (h : te σ H fun v H1 => ∃ a ns, v = .ref a ∧ SqT X.K H1 a (ns.map V.int) ∧ Tabs T H1 ∧ R a ns H1)
    (hQ : ∀ a ns H1 g z, R a ns H1 → Ready X pins σ H1 T ns pb g z → Q' (.ref g) z) : wpAny (model X.prog X.w) X.A (eval (.GeneratorExp elt [⟨.Name x px, iter, [], 0⟩] scope gpos) X.env) Q' X.xe s := by
  refine wpAny_GeneratorExp_walksQ hr.hd S.co (closure_ok S.free) S.cell S.dot S.loc S.kind (by have := hr.dp; omega) (thn (hi.run pins s σ H _ I h) fun xv s1 ⟨v, H1, I1, r1, q1⟩ => ?_) hs
  obtain ⟨a, ns, rfl, hS, hT, q1⟩ := q1
  obtain ⟨its, rv, ht, _⟩ := I1.tuple hS
  cases r1
  have la : a < s1.heap.objs.size := by obtain ⟨o, ho, _⟩ := id ht; exact Heap.lt_size ho
  have hlen : its.toArray.size = ns.length := by have := rv.length; rw [List.length_map] at this; simp only [List.size_toArray]; omega
  have hval : ∀ (i : Nat) (u : Value), its.toArray[i]? = some u → ∃ b t, ns[i]? = some b ∧ u = .int b t := fun i u e => by
    have e' : its[i]? = some u := by simpa using e
    have hl : i < ns.length := by have := (List.getElem?_eq_some_iff.mp e').1; rw [← hlen]; simpa using this
    obtain ⟨u2, e2, r2⟩ := rv.get (i := i) (x := V.int ns[i]) (by rw [List.getElem?_map, List.getElem?_eq_getElem hl]; rfl)
    rw [e'] at e2
    cases e2
    obtain ⟨t, rfl⟩ := r2
    exact ⟨_, t, List.getElem?_eq_getElem hl, rfl⟩
  obtain ⟨ps, hP, htr, hnm⟩ := hT _ hm
  refine wpAny_pyIter_tuple ht ?_
  have hPs : s1.heap.get? P = some { cls := .none, data := .fields ps } := I1.hok P _ hP
  have haP : a ≠ P := fun z => by
    obtain ⟨o, ho, hc, _⟩ := id ht
    rw [z, hPs] at ho
    cases ho
    cases hc
  have hPlt : P < s1.heap.objs.size := Heap.lt_size hPs
  obtain ⟨N, eN⟩ : ∃ N : Nat, N = s1.heap.objs.size := ⟨_, rfl⟩
  obtain ⟨o, eo⟩ : ∃ o : Obj, o = { cls := .type "tuple_iterator", data := .fields #[.ref a, .int 0 0] } := ⟨_, rfl⟩
  rw [← eo]
  have sz2 : (s1.heap.push o).objs.size = N + 1 := by rw [Heap.size_push, ← eN]
  have kp2 : ∀ b u, s1.heap.get? b = some u → (s1.heap.push o).get? b = some u := fun b u e => Heap.get?_push_of_some _ e
  have hit : (s1.heap.push o).IsTupleIter N a 0 := by rw [eN, eo]; exact ⟨_, Heap.get?_push_size _ rfl, rfl, rfl⟩
  have cd : PySem.W.CodeHd (s1.heap.push o) c P := TB.code.keeps fun b u e => kp2 b u (I1.bk b u e)
  have lim2 : (s1.heap.push o).NoLimit := I1.nolimit.push o
  have W : ∀ B : Around, B.handled = none → Walks X.prog X.w B N [N, a] [N] its.toArray.size (fun i u => its.toArray[i]? = some u) (fun i hh => hh.IsTupleIter N a i ∧ hh.IsTuple a its.toArray) := fun B hB => Walks.tuple hB N a (by rw [eN]; exact Nat.ne_of_lt la) its.toArray
  have cont : ∀ (code : Value) (h3 : Heap) (tk : Nat), Heap.ExtBut P (s1.heap.push o) h3 → (s1.heap.push o).objs.size ≤ h3.objs.size →
      (∀ (h' : Heap) (t' : Nat), (∀ b u, b ≠ N → h3.get? b = some u → h'.get? b = some u) → ∃ H3, ExtN H1 H3 ∧ Tabs T H3 ∧ Inv X pins σ H3 { s1 with heap := h', toks := t' }) →
      wpAny (model X.prog X.w) X.A (builtinsFor X.env.globals X.env.builtins) (fun bi z =>
        ∃ Ia fp wr n₀ Pf St₀ pz F, Value.ref N = .ref Ia ∧ (∀ B : Around, B.handled = none → Walks X.prog X.w B Ia fp wr n₀ Pf St₀) ∧ St₀ 0 z.heap ∧ (∀ b ∈ fp, b < z.heap.objs.size) ∧ z.heap.NoLimit ∧ cStatics ∉ wr ∧
          (∀ hz : Heap, (∀ b o, z.heap.get? b = some o → hz.get? b = some o) →
            QuietGen X.prog X.w (genEnv scope (cloFrom X.env.cells scope.names []) z.heap.objs.size code bi X.env) x [] elt (List.range z.heap.objs.size) wr Pf pz F hz) ∧
          (∀ a h₅ tk gs, gs.bare = true → z.heap.objs.size < a → h₅.objs.size = a + 1 → (∀ b o, z.heap.get? b = some o → h₅.get? b = some o) →
            WalksS X.prog X.w X.A.in4 a (a :: z.heap.objs.size :: List.range z.heap.objs.size) (z.heap.objs.size :: wr) (GenOnlyQ z.gens.size) (passing pz n₀ 0).length
              (fun j y => ∃ i, (passing pz n₀ 0)[j]? = some i ∧ F i y) (GenAt X.prog X.w X.A.in4 a z.gens.size z.heap.objs.size (List.range z.heap.objs.size) wr pz n₀ F) →
            GenAt X.prog X.w X.A.in4 a z.gens.size z.heap.objs.size (List.range z.heap.objs.size) wr pz n₀ F 0 { z with gens := z.gens.push gs, toks := tk, heap := h₅ } →
            Q' (.ref a) { z with gens := z.gens.push gs, toks := tk, heap := h₅ })) X.xe { s1 with heap := h3, toks := tk } := by
    intro code h3 tk hx hsz hI
    obtain ⟨bm, ob, e1, e2, e3, e4, e5, e6, e7, e8⟩ := TB.bm
    have hsz' : N + 1 ≤ h3.objs.size := by rw [← sz2]; exact hsz
    have keep3 : ∀ b u, b ≠ P → s1.heap.get? b = some u → h3.get? b = some u := fun b u hb e => hx b u hb (kp2 b u e)
    have hclt : cStatics < N := by rw [eN]; exact let ⟨_, hns, _⟩ := I1.nolimit; hns.lt
    refine wpAny_builtinsFor (m := X.mg) (by rw [I1.ok.glob]; exact ((I1.mod.glob.keeps I1.bk).push o).extBut hx TB.gP) e1 e2 (keep3 _ _ e4 (I1.bk _ _ e5)) e6 e7 e8 ?_
    have itP : N ≠ P := fun z => by rw [eN] at z; exact Nat.ne_of_lt hPlt z.symm
    have hta : h3.IsTuple a its.toArray := by
      obtain ⟨o1, g1, r1⟩ := ht
      exact ⟨o1, keep3 a o1 haP g1, r1⟩
    obtain ⟨_, _, _, I3⟩ := hI h3 tk fun b u _ e => e
    refine ⟨N, [N, a], [N], its.toArray.size, _, _, (fun _ => true), (fun i y => ∃ b, ns[i]? = some b ∧ y = .bool (pb b)), rfl, W, ⟨hit.at fun u e => hx N u itP e, hta⟩, fun b hb => ?_, I3.nolimit, fun z => ?_, fun hz hhz => ?_, fun g h5 tk5 gs hgb hag hsz5 hk5 W5 hat => ?_⟩
    · show b < h3.objs.size
      rcases List.mem_cons.mp hb with z | hb
      · rw [z]; exact Nat.lt_of_lt_of_le (Nat.lt_succ_self N) hsz'
      · rw [List.mem_singleton.mp hb]; exact Nat.lt_of_lt_of_le (Nat.lt_succ_of_lt (eN ▸ la)) hsz'
    · rw [List.mem_singleton.mp z] at hclt
      exact Nat.lt_irrefl _ hclt
    · refine ⟨fun B F' i v s₂ m₂ hB hPv hn hm hk => ?_, fun B F' i v s₂ m₂ hB hPv hp hn hm hk => ?_⟩
      · simp only [List.forIn_nil]
        exact wpAny_pure ⟨rfl, keeps_refl _⟩
      · obtain ⟨b, u, hb, rfl⟩ := hval i v hPv
        exact wpAny_mono (hel _ B F' b u s₂ m₂ rfl hn hm) (fun y s3 r => ⟨⟨b, hb, r.1⟩, r.2⟩) fun _ _ e => e
    · simp only [GxR.passing_true, List.length_range, hlen] at W5
      refine hQ a ns H1 g _ q1 ⟨_, _, _, _, _, W5.in4_1, by rw [hlen] at hat; exact hat, fun j y sj Qj Ej hy hQj => ?_, fun z' hmv => ?_⟩
      · obtain ⟨i, hij, b, hb, rfl⟩ := hy
        obtain ⟨hj, ej⟩ := List.getElem?_eq_some_iff.mp hij
        rw [List.getElem_range] at ej
        subst ej
        have hQ2 : Qj (trI pb ns j) sj := hQj
        rw [trI_some hb] at hQ2
        exact wpAny_truthy_bool hQ2
      · obtain ⟨H3, eN3, hT3, I4⟩ := hI z'.heap z'.toks fun b u hb e => hmv.heap b u (fun z => by
          rcases List.mem_cons.mp z with z | z
          · rw [z] at e
            exact Nat.lt_irrefl _ (Heap.lt_size e)
          · exact hb (List.mem_singleton.mp z)) (hk5 b u e)
        have J := moved_inv (g' := z'.gens) (d' := z'.drawn) (t' := z'.toks) (h' := z'.heap) I4 (fun b u e => e) (AllBare.movedS (I1.bare.push hgb) hmv)
        have J2 := sh_eta { s1 with heap := h3, toks := tk } z' hmv.os
        rw [← J2]
        exact ⟨H3, eN3, hT3, J⟩
  subst eN
  refine ⟨lim2, ?_⟩
  have hP2 : (s1.heap.push o).get? P = some { cls := .none, data := .fields ps } := kp2 _ _ hPs
  have nN : ∀ b u, s1.heap.get? b = some u → b ≠ s1.heap.objs.size := fun b u e => Nat.ne_of_lt (Heap.lt_size e)
  cases hf : codeAmong gpos ps.toList with
  | none =>
    refine wpAny_genexprCodeX hcode (cd.code hP2 htr) (cd.tab hP2) hf fun c' h' tk hx hge hlt hco' hrec htab' _ => ?_
    obtain ⟨c2, oc, vs, t, e2, hoc, hd, hv⟩ := hrec
    cases e2
    have hge1 : s1.heap.objs.size + 1 ≤ c' := by rw [← sz2]; exact hge
    have hge' : s1.heap.objs.size ≤ c' := Nat.le_of_succ_le hge1
    have nC : H1 c' = none := I1.hok.fresh hge'
    have hE : ExtN H1 (upd (upd H1 P (.tbl (ps ++ #[rawInt gpos.line, rawInt gpos.col, .ref c']))) c' (CodeO c' (X.env.qual ++ "<genexpr>"))) := fun b u e n => by
      rw [upd_ne (ne_of_none e nC), upd_ne (fun z => n ps (Option.some.inj (e.symm.trans (by rw [z]; exact hP))))]
      exact e
    have eL : (ps ++ #[rawInt gpos.line, rawInt gpos.col, .ref c']).toList = ps.toList ++ [rawInt gpos.line, rawInt gpos.col, .ref c'] := by simp
    refine cont _ h' tk hx (Nat.le_trans hge (Nat.le_of_lt hlt)) fun h'' t'' k'' => ⟨_, hE, fun p hp => ?_, inv_table (t' := t'') (more := #[rawInt gpos.line, rawInt gpos.col, .ref c']) (h' := h'') I1 hP (fun b u hb e => k'' b u (nN b u e) (hx b u hb (kp2 b u e))) (k'' P _ (nN _ _ hPs) htab'.2) hge' ⟨oc, vs, t, k'' c' _ (Nat.ne_of_gt hge1) hoc, hd, hv⟩⟩
    by_cases hb : p.1 = P
    · rw [hu p hp hb, hb]
      refine ⟨_, by rw [upd_ne (ne_of_none hP nC), upd_same], by rw [eL]; exact PySem.TriplesOk_snoc _ _ _ _ htr, fun p' cv hcv => ?_⟩
      rw [eL] at hcv
      rcases among_app _ htr hcv with z | z
      · obtain ⟨c0, e1, e2⟩ := hnm p' cv z
        exact ⟨c0, e1, hE _ _ e2 codeO_ne⟩
      · exact ⟨c', z, upd_same⟩
    · obtain ⟨ps', a1, a2, a3⟩ := hT p hp
      refine ⟨ps', by rw [upd_ne (ne_of_none a1 nC), upd_ne hb]; exact a1, a2, fun p' cv hcv => ?_⟩
      obtain ⟨c0, e1, e2⟩ := a3 p' cv hcv
      exact ⟨c0, e1, hE _ _ e2 codeO_ne⟩
  | some cv =>
    refine wpAny_genexprCode_hit hcode (cd.code hP2 htr) hf ?_
    exact cont cv (s1.heap.push o) s1.toks (Heap.ExtBut.refl _ _) (Nat.le_refl _) fun h'' t'' k'' => ⟨H1, ExtN.refl H1, hT, I1.kept fun b u e => k'' b u (nN b u e) (kp2 b u e)⟩
/-- any(test for x in e), e a tuple of ints -/
def tAnyI (K : PySem.W.Frag) (T : List (Addr × Str)) (pb : Int → Bool) (te : TE) : TE := fun σ H Q => te σ H fun v H1 => ∃ (a : Addr) (ns : List Int), v = .ref a ∧ SqT K H1 a (ns.map V.int) ∧ Tabs T H1 ∧ ∀ H2, ExtN H1 H2 → Tabs T H2 → Q (.bl (ns.any pb)) H2
theorem pe_anyI {T : List (Addr × Str)} {c P : Addr} {elt iter : Expr} {x : Str} {px p pos gpos : Pos} {scope : Scope} {pb : Int → Bool} {te : TE} {k : Nat} (hr : Room k X.A) (hg : Gl X "any") (hma : X.mg "any" = none) (TB : TabB X.base X.mg c P) (hcode : X.env.code = .ref c)
    (hm : (P, X.env.qual ++ "<genexpr>") ∈ T) (hu : ∀ p ∈ T, p.1 = P → p.2 = X.env.qual ++ "<genexpr>") (S : GenS X.env scope x) (hi : PE X iter te) (hel : EltI X.prog X.w scope x elt pb) (hs : ∀ v, genFold iter X.env v = pure v)
    (he : starEach [.GeneratorExp elt [⟨.Name x px, iter, [], 0⟩] scope gpos] X.env = (false, eval (.GeneratorExp elt [⟨.Name x px, iter, [], 0⟩] scope gpos) X.env) :: starEach [] X.env := by rfl) :
    PE X (.Call (.Name "any" p) [.GeneratorExp elt [⟨.Name x px, iter, [], 0⟩] scope gpos] [] pos) (tAnyI X.K T pb te) := by
  refine ⟨fun pins s σ H Q I h => wpAny_Call_Name_kw (ld_blt I hg hma boot_any (PyProof.Rows.callWith_builtin1 ?_ he (by rfl)))⟩
  rw [he]
  show wpAny _ _ (spliced ((false, eval (.GeneratorExp elt [⟨.Name x px, iter, [], 0⟩] scope gpos) X.env) :: backTo pos (starEach [] X.env))) _ _ s
  refine Calls.spliced_cons (gen_ints (R := fun a ns H1 => ∀ H2, ExtN H1 H2 → Tabs T H2 → Q (.bl (ns.any pb)) H2) hr TB hcode hm hu S hi hel hs I h fun a ns H1 g z hR hG => Calls.spliced_nil ?_)
  obtain ⟨fp, wr, G, F, St, W, hst, htr, hI⟩ := hG
  refine call_any_walkS (W.self 0 _ _ _ hst ⟨g, fp, wr, G, _, F, St, _, rfl, W, hst, htr, fun s' hmv => ?_⟩)
  obtain ⟨H2, hE, hT, J⟩ := hI s' hmv
  exact ⟨.bl _, H2, J, rfl, by rw [any_trI ns pb]; exact hR H2 hE hT⟩
theorem w_anyI {K : PySem.W.Frag} {T : List (Addr × Str)} {pb : Int → Bool} {te : TE} {Q : VK} (h : te σ H fun v H1 => ∃ (a : Addr) (ns : List Int), v = .ref a ∧ SqT K H1 a (ns.map V.int) ∧ Tabs T H1 ∧ ∀ H2, ExtN H1 H2 → Tabs T H2 → Q (.bl (ns.any pb)) H2) : tAnyI K T pb te σ H Q := h
end GnI
end

section
-- part Fno
set_option Elab.async false
set_option linter.all false
set_option maxRecDepth 100000
set_option maxHeartbeats 2000000
/-! Fno: an instance without == of its own is not equal to a text -/
namespace NoS
open PySem PySem.Spec PyProof.Rows PySem.SeqAt L2
section
variable {M : Model} {prog : Program} {w : World} {A : Around} {E : Value → Shared → Prop} {s : Shared} {K : PySem.W.Frag} {x C : Addr} {ox : Obj} {od : Option Obj} {z : Str} {t : Tok}
theorem same_str {R : Bool → Shared → Prop} (h : R false s) : wpAny M A (isSame (.ref x) (.str z t)) R E s := wpAny_of_eq (rfl : isSame (.ref x) (.str z t) = pure false) h
theorem entryE {Q : Fin → Shared → Prop} (hq : Q (.done (.ret .notImplemented)) s) : wpAny M A (Builtin.«object.__eq__» ⟨[.ref x, .str z t], []⟩) Q E s := by
  unfold Builtin.«object.__eq__»
  repeat (first | with_reducible refine same_str ?_ | wp_step)
  exact hq
theorem callE {Q : Value → Shared → Prop} (X : K.In s.heap) (I : PySem.W.InstAt s.heap x ox C od) (hm : PySem.W.mroIn K C (.type "object") = some true) (hq : Q .notImplemented s) : wpAny (model prog w) A (call (.builtin "object.__eq__") [.ref x, .str z t]) Q E s :=
  wpAny_call (codeAny_call_builtin F.cmp_object.eq.plain F.cmpEntry_eq (PySem.W.check_slot F.cmpKind_eq F.cmpSplit_eq (I.type.andThen (PySem.W.looks_mroIn X hm)) (F.cmpArgs_eq _ _) (entryE hq)))
theorem ifBoundN {args : List Value} {Q : Option Value → Shared → Prop} (X : K.In s.heap) (I : PySem.W.InstAt s.heap x ox C od) (hs : PySem.W.findIn K (.ref C) "__ne__" = some (some (.builtin "object.__ne__")))
    (h : wpAny M A (call (.builtin "object.__ne__") (.ref x :: args)) (fun v => Q (some v)) E s) : wpAny M A (callSpecialIfBound? (.ref x) "__ne__" args) Q E s := by
  simp only [callSpecialIfBound?, bindSpecialIfBound?]
  refine wpAny_holding (wpAny_bind (wpAny_bind (wpAny_bind (I.type.here ((PySem.W.looks_findIn X hs).here (wpAny_bind (wpAny_askSetting (wpAny_ite ?_))))))))
  have fin : wpAny M A (call (.builtin "object.__ne__") ([.ref x] ++ args) >>= fun v => pure (some v)) Q E s := wpAny_bind (wpAny_mono h (fun v s' h' => wpAny_pure h') fun _ _ h' => h')
  split
  · exact wpAny_bind (wpAny_of_eq (F.cmp_object.ne.bind _) (wpAny_pure (by exact fin)))
  · exact wpAny_tryCatch (wpAny_bind (wpAny_of_eq (F.cmp_object.ne.bind _) (wpAny_pure (by exact fin))))
theorem entryN {Q : Fin → Shared → Prop} (hu : A.units < cLine) (X : K.In s.heap) (I : PySem.W.InstAt s.heap x ox C od) (hm : PySem.W.mroIn K C (.type "object") = some true) (hs : PySem.W.findIn K (.ref C) "__eq__" = some (some (.builtin "object.__eq__")))
    (hq : Q (.done (.ret .notImplemented)) s) : wpAny (model prog w) A (Builtin.«object.__ne__» ⟨[.ref x, .str z t], []⟩) Q E s := by
  unfold Builtin.«object.__ne__»
  repeat (first | with_reducible refine wpAny_cRoomFor hu ?_ | with_reducible refine HN.ifBound_objEq X I hs (callE X I hm ?_) | wp_step)
  exact hq
theorem callN {Q : Value → Shared → Prop} (hu : A.units + 1 < cLine) (X : K.In s.heap) (I : PySem.W.InstAt s.heap x ox C od) (hm : PySem.W.mroIn K C (.type "object") = some true) (hs : PySem.W.findIn K (.ref C) "__eq__" = some (some (.builtin "object.__eq__"))) (hq : Q .notImplemented s) :
    wpAny (model prog w) A (call (.builtin "object.__ne__") [.ref x, .str z t]) Q E s :=
  wpAny_call (codeAny_call_builtin F.cmp_object.ne.plain F.cmpEntry_ne (PySem.W.check_slot F.cmpKind_ne F.cmpSplit_ne (I.type.andThen (PySem.W.looks_mroIn X hm)) (F.cmpArgs_ne _ _) (entryN (A := A.in1) hu X I hm hs hq)))
theorem subS : PySem.W.subIn K (.type "str") (.ref C) = some false := by
  have e : fastBuiltinMro "str" = some [.type "str", .type "object"] := by decide +kernel
  show (fastBuiltinMro "str").map (·.contains (.ref C)) = some false
  rw [e]
  first
    | rfl
    | simp
theorem strNe {Q : Fin → Shared → Prop} {dx : Addr} (I : s.heap.get? x = some (PySem.W.instObj C dx)) (hq : Q (.done (.ret .notImplemented)) s) : wpAny (model prog w) A (Builtin.«str.__ne__» ⟨[.str z t, .ref x], []⟩) Q E s := by
  obtain ⟨hp, g, d, tk, os⟩ := s
  wp_walk
  exact hq
theorem rcNe {dx : Addr} {Q : Value → Shared → Prop} (hu : A.units + 1 < cLine) (X : K.In s.heap) (I : PySem.W.InstAt s.heap x (PySem.W.instObj C dx) C od) (hm : PySem.W.mroIn K C (.type "object") = some true) (he : PySem.W.findIn K (.ref C) "__eq__" = some (some (.builtin "object.__eq__")))
    (hn : PySem.W.findIn K (.ref C) "__ne__" = some (some (.builtin "object.__ne__"))) (h : Q (.bool true) s) : wpAny (model prog w) A (richCompare .NotEq (.ref x) (.str z t)) Q E s := by
  have hu0 : A.units < cLine := Nat.lt_of_succ_lt hu
  have one : wpAny (model prog w) A (tryCompare (.ref x) "__ne__" (.str z t)) (fun r s' => r = none ∧ s' = s) E s := by
    unfold tryCompare
    exact wpAny_bind (ifBoundN X I hn (callN hu X I hm he (wpAny_pure ⟨rfl, rfl⟩)))
  have hT : s.TypeIs (.str z t) "str" := typeIs_str s z t
  have two : wpAny (model prog w) A (tryCompare (.str z t) "__ne__" (.ref x)) (fun r s' => r = none ∧ s' = s) E s :=
    wpAny_tryCompare_declines hT F.slot_str_ne_refl (wpAny_call (codeAny_call_builtin F.slot_str_ne_refl.plain F.entry_str_ne (F.slot_str_ne_refl.check _ _ _ _ _ _ _ _ hT (F.args_str_ne_2 _ _) (strNe I.at_ ⟨rfl, rfl, rfl⟩))))
  simp only [richCompare, cmpInfo_NotEq, oneThing_ref]
  refine wpAny_holding (wpAny_bind (wpAny_cRoomFor hu0 ?_))
  refine wpAny_bind (I.type.here ?_)
  refine wpAny_bind (wpAny_typeOf hT ?_)
  split
  · refine wpAny_bind ((PySem.W.looks_subIn X subS).here ?_)
    simp only [Bool.false_eq_true, if_false, Bool.not_false, if_true]
    refine wpAny_bind (m := tryCompare (.ref x) _ (.str z t)) (wpAny_mono one (fun r s1 q => ?_) fun _ _ e => e)
    obtain ⟨q1, q2⟩ := q
    subst q1 q2
    refine wpAny_bind (m := tryCompare (.str z t) _ (.ref x)) (wpAny_mono two (fun r s2 q => ?_) fun _ _ e => e)
    obtain ⟨q1, q2⟩ := q
    subst q1 q2
    exact wpAny_bind (wpAny_rule (wpAny_bind (wpAny_of_eq (rfl : isSame (.ref x) (.str z t) = pure false) (wpAny_pure h))))
  · rename_i q
    exact absurd (by simp) q
end
end NoS
namespace L2
open PySem PySem.Spec PyProof.Rows
/-- the class C has no == of its own -/
structure NoEq (K : PySem.W.Frag) (C : Addr) : Prop where
  mro : PySem.W.mroIn K C (.type "object") = some true
  eq : PySem.W.findIn K (.ref C) "__eq__" = some (some (.builtin "object.__eq__"))
  ne : PySem.W.findIn K (.ref C) "__ne__" = some (some (.builtin "object.__ne__"))
/-- x != 't', x a text or an instance -/
def rNeO (K : PySem.W.Frag) : R2 := fun x y H Q => ∃ z, y = .str z ∧ ((∃ a, x = .str a ∧ Q (.bl (!decide (V.str a = V.str z))) H) ∨ ∃ a C dx fs, x = .ref a ∧ H a = some (.ins C dx fs) ∧ NoEq K C ∧ Q (.bl true) H)
theorem op_neO {X : Cx} (hu : X.A.units + 64 < cLine) : OpR X (compareOp .NotEq) (rNeO X.K) := by
  intro pins s σ H x y v u Q I rx ry h
  obtain ⟨z, rfl, h⟩ := h
  rcases h with ⟨a, rfl, q⟩ | ⟨a, C, dx, fs, rfl, ha, N, q⟩
  · exact op_ne pins s σ H _ _ v u Q I rx ry ⟨rfl, q⟩
  · cases rx
    obtain ⟨t, rfl⟩ := ry
    obtain ⟨mA, O, _⟩ := ins_get I.hok ha
    obtain ⟨od, J, _⟩ := O.look
    exact NoS.rcNe (by omega) I.kIn J N.mro N.eq N.ne ⟨.bl true, H, I, rfl, q⟩
theorem w_neOs {K : PySem.W.Frag} {a b : Str} {H : Hp} {Q : VK} (q : Q (.bl (!decide (V.str a = V.str b))) H) : rNeO K (.str a) (.str b) H Q := ⟨b, rfl, .inl ⟨a, rfl, q⟩⟩
theorem w_neOi {K : PySem.W.Frag} {a C dx : Addr} {fs : List (Str × V)} {b : Str} {H : Hp} {Q : VK} (h : H a = some (.ins C dx fs)) (n : NoEq K C) (q : Q (.bl true) H) : rNeO K (.ref a) (.str b) H Q := ⟨b, rfl, .inr ⟨a, C, dx, fs, rfl, h, n, q⟩⟩
end L2
end

section
-- part K05M
set_option Elab.async false
set_option linter.all false
set_option maxRecDepth 100000
set_option maxHeartbeats 2000000
/-! K05M: rows as bytes; core Lean -/
namespace M5
open PySem PySem.Spec PyProof.Rows L2 Fw
abbrev HI : Int := 9223372036854775807
inductive RV where
  | non
  | txt (l : List Nat)
  | num (n : Int)
deriving DecidableEq
def alphabet : List Nat := [10, 32, 33, 34, 35, 36, 38, 39, 40, 41, 42, 43, 44, 45, 46, 47, 48, 49, 50, 51, 52, 53, 54, 55, 56, 57, 58, 59, 60, 61, 62, 63, 64, 65, 66, 67, 68, 69, 70, 71, 72, 73, 74, 75, 76, 77, 78, 79, 80, 81, 82, 83, 84, 85, 86, 87, 88, 89, 90, 91, 92, 93, 94, 95, 96, 97, 98, 99, 100, 101, 102, 103, 104, 105, 106, 107, 108, 109, 110, 111, 112, 113, 114, 115, 116, 117, 118, 119, 120, 121, 122, 123, 124, 125, 126]
def sgn (c : Nat) : Nat := alphabet.findIdx (· == c)
theorem al_len : alphabet.length = 95 := by decide +kernel
theorem sgn_ok {c : Nat} (h : c ∈ alphabet) : sgn c < 95 ∧ alphabet[sgn c]? = some c := by
  have h2 : alphabet.all (fun c => decide (sgn c < 95 ∧ alphabet[sgn c]? = some c)) = true := by decide +kernel
  exact of_decide_eq_true (List.all_eq_true.mp h2 c h)
theorem sgn_at {i : Nat} (h : i < 95) : ∃ c ∈ alphabet, alphabet[i]? = some c ∧ sgn c = i := by
  have h2 : ∀ i < 95, (match alphabet[i]? with | some c => decide (c ∈ alphabet ∧ sgn c = i) | none => false) = true := by decide +kernel
  have h3 := h2 i h
  cases e : alphabet[i]? with
  | none => rw [e] at h3; cases h3
  | some c => rw [e] at h3; exact ⟨c, (of_decide_eq_true h3).1, rfl, (of_decide_eq_true h3).2⟩
theorem sgn_lt {c d : Nat} (hc : c ∈ alphabet) (hd : d ∈ alphabet) : sgn c < sgn d ↔ c < d := by
  have h2 : alphabet.all (fun c => alphabet.all fun d => decide (sgn c < sgn d ↔ c < d)) = true := by decide +kernel
  exact of_decide_eq_true (List.all_eq_true.mp (List.all_eq_true.mp h2 c hc) d hd)
theorem sgn_inj {c d : Nat} (hc : c ∈ alphabet) (hd : d ∈ alphabet) (h : sgn c = sgn d) : c = d := by
  have h1 := sgn_lt hc hd
  have h2 := sgn_lt hd hc
  omega
/-! bytes -/
def Byt (d : List Int) : Prop := ∀ b ∈ d, 0 ≤ b ∧ b < 256
def fixedL (n : Int) : Nat → List Int
  | 0 => []
  | k + 1 => fixedL (n / 256) k ++ [n % 256]
def fromL (d : List Int) : Int := d.foldl (fun a b => a * 256 + b) 0
theorem fromL_snoc (d : List Int) (b : Int) : fromL (d ++ [b]) = fromL d * 256 + b := by simp [fromL]
theorem fixed_len (n : Int) (k : Nat) : (fixedL n k).length = k := by
  induction k generalizing n with
  | zero => rfl
  | succ k ih => rw [fixedL, List.length_append, ih]; rfl
theorem fixed_byt (n : Int) (k : Nat) : Byt (fixedL n k) := by
  induction k generalizing n with
  | zero => intro b hb; cases hb
  | succ k ih =>
    intro b hb
    rcases List.mem_append.mp hb with hb | hb
    · exact ih _ b hb
    · rw [List.mem_singleton.mp hb]; omega
theorem from_fixed (k : Nat) : ∀ n : Int, 0 ≤ n → n < 256 ^ k → fromL (fixedL n k) = n := by
  induction k with
  | zero => intro n h0 h1; simp at h1; have : n = 0 := by omega
            subst this; rfl
  | succ k ih =>
    intro n h0 h1
    rw [fixedL, fromL_snoc, ih (n / 256) (by omega) (by rw [Int.pow_succ] at h1; omega)]
    omega
theorem fixed_from : ∀ d : List Int, Byt d → fixedL (fromL d) d.length = d := by
  intro d
  rw [← List.reverse_reverse d]
  generalize d.reverse = e
  induction e with
  | nil => intro _; rfl
  | cons b e ih =>
    intro h
    rw [List.reverse_cons] at h ⊢
    have hb := h b (by simp)
    have h2 : Byt e.reverse := fun c hc => h c (List.mem_append_left _ hc)
    rw [fromL_snoc, List.length_append, List.length_singleton, fixedL]
    have e1 : (fromL e.reverse * 256 + b) / 256 = fromL e.reverse := by omega
    have e2 : (fromL e.reverse * 256 + b) % 256 = b := by omega
    rw [e1, e2, ih h2]
theorem from_bound : ∀ d : List Int, Byt d → 0 ≤ fromL d ∧ fromL d < 256 ^ d.length := by
  intro d
  rw [← List.reverse_reverse d]
  generalize d.reverse = e
  induction e with
  | nil => intro _; exact ⟨by decide, by decide⟩
  | cons b e ih =>
    intro h
    rw [List.reverse_cons] at h ⊢
    have hb := h b (by simp)
    have h2 : Byt e.reverse := fun c hc => h c (List.mem_append_left _ hc)
    obtain ⟨i1, i2⟩ := ih h2
    rw [fromL_snoc, List.length_append, List.length_singleton, Int.pow_succ]
    omega
/-! two lists that part at a place -/
def Div (a b : List Int) (lt : Bool) : Prop := ∃ p x y a' b', a = p ++ x :: a' ∧ b = p ++ y :: b' ∧ x ≠ y ∧ lt = decide (x < y)
theorem Div.app {a b : List Int} {lt : Bool} (h : Div a b lt) (u v : List Int) : Div (a ++ u) (b ++ v) lt := by
  obtain ⟨p, x, y, a', b', rfl, rfl, n, l⟩ := h
  exact ⟨p, x, y, a' ++ u, b' ++ v, by simp, by simp, n, l⟩
theorem Div.pre {a b : List Int} {lt : Bool} (h : Div a b lt) (u : List Int) : Div (u ++ a) (u ++ b) lt := by
  obtain ⟨p, x, y, a', b', rfl, rfl, n, l⟩ := h
  exact ⟨u ++ p, x, y, a', b', by simp, by simp, n, l⟩
theorem Div.ne {a b : List Int} {lt : Bool} (h : Div a b lt) : a ≠ b := by
  obtain ⟨p, x, y, a', b', rfl, rfl, n, l⟩ := h
  intro e
  exact n (List.cons.inj (List.append_cancel_left e)).1
theorem Div.nopre {a b : List Int} {lt : Bool} (h : Div a b lt) : b.take a.length ≠ a := by
  obtain ⟨p, x, y, a', b', rfl, rfl, n, l⟩ := h
  intro e
  rw [List.take_append, List.take_of_length_le (by simp)] at e
  have e2 := List.append_cancel_left e
  have : (p ++ x :: a').length - p.length = a'.length + 1 := by simp
  rw [this, List.take_succ_cons] at e2
  exact n (List.cons.inj e2).1.symm
theorem lex_app (p a b : List Int) : HT.lexLt (p ++ a) (p ++ b) = HT.lexLt a b := by
  induction p with
  | nil => rfl
  | cons x p ih =>
    rw [List.cons_append, List.cons_append]
    simp [HT.lexLt, ih]
theorem Div.lex {a b : List Int} {lt : Bool} (h : Div a b lt) : HT.lexLt a b = lt := by
  obtain ⟨p, x, y, a', b', rfl, rfl, n, l⟩ := h
  rw [lex_app, l]
  simp [HT.lexLt, n]
theorem lex_same (a : List Int) : HT.lexLt a a = false := by
  induction a with
  | nil => rfl
  | cons x a ih => simp [HT.lexLt, ih]
theorem fixed_div (k : Nat) : ∀ n m : Int, 0 ≤ n → n < 256 ^ k → 0 ≤ m → m < 256 ^ k → n ≠ m → Div (fixedL n k) (fixedL m k) (decide (n < m)) := by
  induction k with
  | zero => intro n m h0 h1 h2 h3 hn; simp at h1 h3; omega
  | succ k ih =>
    intro n m h0 h1 h2 h3 hn
    rw [Int.pow_succ] at h1 h3
    rw [fixedL, fixedL]
    by_cases c : n / 256 = m / 256
    · refine ⟨fixedL (n / 256) k, n % 256, m % 256, [], [], rfl, by rw [c], by omega, ?_⟩
      rw [decide_eq_decide]
      omega
    · have := ih (n / 256) (m / 256) (by omega) (by omega) (by omega) (by omega) c
      have e : decide (n < m) = decide (n / 256 < m / 256) := by rw [decide_eq_decide]; omega
      rw [e]
      exact this.app _ _
/-! keys -/
def okV : RV → Prop
  | .non => True
  | .txt l => ∀ c ∈ l, c ∈ alphabet
  | .num n => -HI ≤ n ∧ n ≤ HI
def sg (l : List Nat) : List Int := l.map fun c => ((sgn c + 2 : Nat) : Int)
def keyV : RV → List Int
  | .non => [1]
  | .txt l => 3 :: (sg l ++ [1])
  | .num n => 2 :: fixedL (n + HI) 8
def keyR (r : List RV) : List Int := r.flatMap keyV
/-- as ranks compare -/
def vlt : RV → RV → Bool
  | .non, .non => false
  | .non, _ => true
  | .num _, .non => false
  | .num n, .num m => decide (n < m)
  | .num _, .txt _ => true
  | .txt _, .non => false
  | .txt _, .num _ => false
  | .txt l, .txt m => decide (l < m)
theorem sg_div : ∀ l m : List Nat, (∀ c ∈ l, c ∈ alphabet) → (∀ c ∈ m, c ∈ alphabet) → l ≠ m → Div (sg l ++ [1]) (sg m ++ [1]) (decide (l < m))
  | [], [], _, _, h => absurd rfl h
  | [], d :: m, _, _, _ => ⟨[], 1, ((sgn d + 2 : Nat) : Int), [], sg m ++ [1], rfl, rfl, by omega, by
      have e1 : decide ((1 : Int) < ((sgn d + 2 : Nat) : Int)) = true := decide_eq_true (by omega)
      have e2 : decide (([] : List Nat) < d :: m) = true := by simp
      rw [e1, e2]⟩
  | c :: l, [], _, _, _ => ⟨[], ((sgn c + 2 : Nat) : Int), 1, sg l ++ [1], [], rfl, rfl, by omega, by
      have e1 : decide (((sgn c + 2 : Nat) : Int) < 1) = false := decide_eq_false (by omega)
      have e2 : decide (c :: l < ([] : List Nat)) = false := by simp
      rw [e1, e2]⟩
  | c :: l, d :: m, hl, hm, h => by
    have hc := hl c List.mem_cons_self
    have hd := hm d List.mem_cons_self
    by_cases e : c = d
    · subst e
      have ih := sg_div l m (fun x hx => hl x (List.mem_cons_of_mem _ hx)) (fun x hx => hm x (List.mem_cons_of_mem _ hx)) (fun q => h (by rw [q]))
      have e2 : decide (c :: l < c :: m) = decide (l < m) := by
        rw [decide_eq_decide, List.cons_lt_cons_iff]
        constructor
        · rintro (z | z)
          · omega
          · exact z.2
        · exact fun z => .inr ⟨rfl, z⟩
      rw [e2]
      exact ih.pre [((sgn c + 2 : Nat) : Int)]
    · refine ⟨[], ((sgn c + 2 : Nat) : Int), ((sgn d + 2 : Nat) : Int), sg l ++ [1], sg m ++ [1], rfl, rfl, fun q => e (sgn_inj hc hd (by omega)), ?_⟩
      rw [decide_eq_decide, List.cons_lt_cons_iff]
      have := sgn_lt hc hd
      constructor
      · rintro (z | z)
        · have := this.mpr z; omega
        · exact absurd z.1 e
      · intro z
        exact .inl (this.mp (by omega))
theorem key_div : ∀ v w : RV, okV v → okV w → v ≠ w → Div (keyV v) (keyV w) (vlt v w)
  | .non, .non, _, _, h => absurd rfl h
  | .non, .txt l, _, _, _ => ⟨[], 1, 3, [], _, rfl, rfl, by decide, rfl⟩
  | .non, .num n, _, _, _ => ⟨[], 1, 2, [], _, rfl, rfl, by decide, rfl⟩
  | .txt l, .non, _, _, _ => ⟨[], 3, 1, _, [], rfl, rfl, by decide, rfl⟩
  | .num n, .non, _, _, _ => ⟨[], 2, 1, _, [], rfl, rfl, by decide, rfl⟩
  | .txt l, .num n, _, _, _ => ⟨[], 3, 2, _, _, rfl, rfl, by decide, rfl⟩
  | .num n, .txt l, _, _, _ => ⟨[], 2, 3, _, _, rfl, rfl, by decide, rfl⟩
  | .txt l, .txt m, hl, hm, h => (sg_div l m hl hm (fun e => h (by rw [e]))).pre [3]
  | .num n, .num m, hn, hm, h => by
    have hn' : -HI ≤ n ∧ n ≤ HI := hn
    have hm' : -HI ≤ m ∧ m ≤ HI := hm
    have hne : n + HI ≠ m + HI := fun e => h (by rw [show n = m by omega])
    have := fixed_div 8 (n + HI) (m + HI) (by omega) (Int.lt_of_le_of_lt (by omega : n + HI ≤ 2 * HI) (by decide)) (by omega) (Int.lt_of_le_of_lt (by omega : m + HI ≤ 2 * HI) (by decide)) hne
    have e : decide (n + HI < m + HI) = decide (n < m) := by rw [decide_eq_decide]; omega
    rw [e] at this
    exact this.pre [2]
/-- rows of as many values -/
def rlt : List RV → List RV → Bool
  | v :: r, w :: s => if v = w then rlt r s else vlt v w
  | [], _ :: _ => true
  | _, [] => false
theorem row_div : ∀ r s : List RV, r.length = s.length → (∀ v ∈ r, okV v) → (∀ v ∈ s, okV v) → r ≠ s → Div (keyR r) (keyR s) (rlt r s)
  | [], [], _, _, _, h => absurd rfl h
  | v :: r, w :: s, hl, hr, hs, h => by
    show Div (keyV v ++ keyR r) (keyV w ++ keyR s) _
    by_cases e : v = w
    · subst e
      rw [rlt, if_pos rfl]
      exact (row_div r s (by simpa using hl) (fun x hx => hr x (List.mem_cons_of_mem _ hx)) (fun x hx => hs x (List.mem_cons_of_mem _ hx)) (fun q => h (by rw [q]))).pre _
    · rw [rlt, if_neg e]
      exact (key_div v w (hr v List.mem_cons_self) (hs w List.mem_cons_self) e).app _ _
theorem rlt_same (r : List RV) : rlt r r = false := by
  induction r with
  | nil => rfl
  | cons v r ih => rw [rlt, if_pos rfl, ih]
theorem row_lex {r s : List RV} (hl : r.length = s.length) (hr : ∀ v ∈ r, okV v) (hs : ∀ v ∈ s, okV v) : HT.lexLt (keyR r) (keyR s) = rlt r s := by
  by_cases e : r = s
  · subst e
    rw [lex_same, rlt_same]
  · exact (row_div r s hl hr hs e).lex
end M5
end

section
-- part K05N
set_option Elab.async false
set_option linter.all false
set_option maxRecDepth 100000
set_option maxHeartbeats 2000000
/-! K05N: reading back; core Lean -/
namespace M5
open PySem PySem.Spec PyProof.Rows L2 Fw
/-- one sign's number read; none: no such sign -/
def chr (b : Int) : Option Nat := if 0 ≤ b ∧ b < 95 then alphabet[b.toNat]? else none
theorem chr_sgn {c : Nat} (h : c ∈ alphabet) : chr (sgn c : Int) = some c := by
  have h2 := sgn_ok h
  rw [chr, if_pos (by omega)]
  exact h2.2
theorem chr_ok {b : Int} {c : Nat} (h : chr b = some c) : c ∈ alphabet ∧ (sgn c : Int) = b := by
  rw [chr] at h
  split at h
  · rename_i h1
    obtain ⟨d, hd, e, s⟩ := sgn_at (i := b.toNat) (by omega)
    rw [e] at h
    cases h
    exact ⟨hd, by omega⟩
  · cases h
theorem chr_none {b : Int} (h : chr b = none) : ¬ (0 ≤ b ∧ b < 95) := fun h1 => by
  rw [chr, if_pos h1] at h
  obtain ⟨d, hd, e, s⟩ := sgn_at (i := b.toNat) (by omega)
  rw [e] at h
  cases h
/-- a text's signs up to the byte 1, and how many bytes it takes with it -/
def tfk : List Int → Option (List Nat × Nat)
  | [] => none
  | b :: r => if b = 1 then some ([], 1) else match chr (b - 2) with
    | none => none
    | some c => (tfk r).map fun q => (c :: q.1, q.2 + 1)
/-- a value from a key's bytes, and how many it takes -/
def vfk : List Int → Option (RV × Nat)
  | [] => none
  | b :: r =>
    if b = 1 then some (.non, 1)
    else if b = 2 then (if r.length < 8 then none else if HI < fromL (r.take 8) - HI then none else some (.num (fromL (r.take 8) - HI), 9))
    else if b = 3 then (tfk r).map fun q => (.txt q.1, q.2 + 1)
    else none
theorem tfk_len : ∀ {d : List Int} {l : List Nat} {k : Nat}, tfk d = some (l, k) → 0 < k ∧ k ≤ d.length
  | [], l, k, h => by cases h
  | b :: r, l, k, h => by
    rw [tfk] at h
    split at h
    · cases h; simp
    · split at h
      · cases h
      · obtain ⟨⟨l', k'⟩, h1, h2⟩ := Option.map_eq_some_iff.mp h
        cases h2
        have := tfk_len h1
        simp only [List.length_cons]
        omega
theorem vfk_len {d : List Int} {v : RV} {k : Nat} (h : vfk d = some (v, k)) : 0 < k ∧ k ≤ d.length := by
  cases d with
  | nil => cases h
  | cons b r =>
    rw [vfk] at h
    split at h
    · cases h; simp
    · split at h
      · split at h
        · cases h
        · split at h
          · cases h
          · cases h; simp only [List.length_cons]; omega
      · split at h
        · obtain ⟨⟨l', k'⟩, h1, h2⟩ := Option.map_eq_some_iff.mp h
          cases h2
          have := tfk_len h1
          simp only [List.length_cons]
          omega
        · cases h
theorem tfk_sg : ∀ (l : List Nat) (r : List Int), (∀ c ∈ l, c ∈ alphabet) → tfk (sg l ++ 1 :: r) = some (l, l.length + 1)
  | [], r, _ => by
    show tfk (1 :: r) = _
    rw [tfk, if_pos rfl]
    rfl
  | c :: l, r, h => by
    have ih := tfk_sg l r fun x hx => h x (List.mem_cons_of_mem _ hx)
    show tfk (((sgn c + 2 : Nat) : Int) :: (sg l ++ 1 :: r)) = _
    have e : ((sgn c + 2 : Nat) : Int) - 2 = (sgn c : Int) := by omega
    rw [tfk, if_neg (by omega), e, chr_sgn (h c List.mem_cons_self), ih]
    rfl
theorem vfk_key (v : RV) (r : List Int) (h : okV v) : vfk (keyV v ++ r) = some (v, (keyV v).length) := by
  cases v with
  | non =>
    show vfk (1 :: r) = _
    rw [vfk, if_pos rfl]
    rfl
  | txt l =>
    show vfk (3 :: (sg l ++ [1] ++ r)) = _
    rw [vfk, if_neg (by decide), if_neg (by decide), if_pos rfl, List.append_assoc]
    show Option.map _ (tfk (sg l ++ 1 :: r)) = _
    rw [tfk_sg l r h]
    show some (RV.txt l, l.length + 1 + 1) = some (RV.txt l, (3 :: (sg l ++ [1])).length)
    simp [sg]
  | num n =>
    have hn : -HI ≤ n ∧ n ≤ HI := h
    have e8 : ((fixedL (n + HI) 8) ++ r).take 8 = fixedL (n + HI) 8 := by
      rw [List.take_append, List.take_of_length_le (by rw [fixed_len]; exact Nat.le_refl _), fixed_len]
      simp
    have ef := from_fixed 8 (n + HI) (by omega) (Int.lt_of_le_of_lt (by omega : n + HI ≤ 2 * HI) (by decide))
    show vfk (2 :: (fixedL (n + HI) 8 ++ r)) = _
    rw [vfk, if_neg (by decide), if_pos rfl, if_neg (by rw [List.length_append, fixed_len]; omega), e8, ef, if_neg (by omega)]
    have e9 : n + HI - HI = n := by omega
    rw [e9]
    show some (RV.num n, 9) = some (RV.num n, (2 :: fixedL (n + HI) 8).length)
    rw [List.length_cons, fixed_len]
theorem tfk_back : ∀ {d : List Int} {l : List Nat} {k : Nat}, tfk d = some (l, k) → (∀ c ∈ l, c ∈ alphabet) ∧ sg l ++ [1] = d.take k ∧ l.length ≤ k
  | [], l, k, h => by cases h
  | b :: r, l, k, h => by
    rw [tfk] at h
    split at h
    · rename_i e
      cases h
      subst e
      exact ⟨fun c hc => absurd hc List.not_mem_nil, rfl, Nat.zero_le _⟩
    · split at h
      · cases h
      · rename_i c hc
        obtain ⟨⟨l', k'⟩, h1, h2⟩ := Option.map_eq_some_iff.mp h
        cases h2
        obtain ⟨i1, i2, i3⟩ := tfk_back h1
        obtain ⟨c1, c2⟩ := chr_ok hc
        refine ⟨fun x hx => ?_, ?_, ?_⟩
        · rcases List.mem_cons.mp hx with rfl | hx
          · exact c1
          · exact i1 x hx
        · rw [List.take_succ_cons, ← i2]
          show ((sgn c + 2 : Nat) : Int) :: (sg l' ++ [1]) = _
          rw [show ((sgn c + 2 : Nat) : Int) = b by omega]
        · show l'.length + 1 ≤ k' + 1
          omega
theorem vfk_back {d : List Int} {v : RV} {k : Nat} (hb : Byt d) (h : vfk d = some (v, k)) : okV v ∧ keyV v = d.take k := by
  cases d with
  | nil => cases h
  | cons b r =>
    rw [vfk] at h
    split at h
    · rename_i e
      cases h
      subst e
      exact ⟨trivial, rfl⟩
    · split at h
      · rename_i e
        subst e
        split at h
        · cases h
        · rename_i hl
          split at h
          · cases h
          · rename_i hh
            cases h
            have h8 : (r.take 8).length = 8 := by rw [List.length_take]; omega
            have hb8 : Byt (r.take 8) := fun c hc => hb c (List.mem_cons_of_mem _ (List.mem_of_mem_take hc))
            have bd := from_bound _ hb8
            have ff := fixed_from _ hb8
            rw [h8] at ff
            refine ⟨⟨by omega, by omega⟩, ?_⟩
            show 2 :: fixedL (fromL (r.take 8) - HI + HI) 8 = _
            rw [show fromL (r.take 8) - HI + HI = fromL (r.take 8) by omega, ff]
            rfl
      · split at h
        · rename_i e
          subst e
          obtain ⟨⟨l', k'⟩, h1, h2⟩ := Option.map_eq_some_iff.mp h
          cases h2
          obtain ⟨i1, i2, _⟩ := tfk_back h1
          exact ⟨i1, by rw [List.take_succ_cons, ← i2]; rfl⟩
        · cases h
/-- all values of a key; the fuel: more than its bytes -/
def vsk : Nat → List Int → Option (List RV)
  | 0, _ => none
  | f + 1, d => if d = [] then some [] else match vfk d with
    | none => none
    | some (v, k) => (vsk f (d.drop k)).map (v :: ·)
theorem vsk_key : ∀ (r : List RV) (f : Nat), (∀ v ∈ r, okV v) → r.length < f → vsk f (keyR r) = some r
  | [], f + 1, _, _ => by rw [vsk]; rfl
  | v :: r, f + 1, h, hf => by
    have hv := vfk_key v (keyR r) (h v List.mem_cons_self)
    have ne : keyR (v :: r) ≠ [] := by cases v <;> simp [keyR, keyV]
    have e : keyR (v :: r) = keyV v ++ keyR r := rfl
    rw [vsk, if_neg ne, e, hv]
    show Option.map _ (vsk f ((keyV v ++ keyR r).drop (keyV v).length)) = _
    rw [List.drop_append, List.drop_of_length_le (Nat.le_refl _), Nat.sub_self, List.drop_zero, List.nil_append, vsk_key r f (fun x hx => h x (List.mem_cons_of_mem _ hx)) (by simpa using hf)]
    rfl
theorem byt_drop {d : List Int} (h : Byt d) (k : Nat) : Byt (d.drop k) := fun b hb => h b (List.mem_of_mem_drop hb)
theorem vsk_back : ∀ {f : Nat} {d : List Int} {r : List RV}, Byt d → vsk f d = some r → (∀ v ∈ r, okV v) ∧ keyR r = d ∧ r.length ≤ d.length
  | 0, d, r, _, h => by cases h
  | f + 1, d, r, hb, h => by
    rw [vsk] at h
    split at h
    · rename_i e
      cases h
      subst e
      exact ⟨fun v hv => absurd hv List.not_mem_nil, rfl, Nat.le_refl _⟩
    · split at h
      · cases h
      · rename_i v k hv
        obtain ⟨r', h1, h2⟩ := Option.map_eq_some_iff.mp h
        subst h2
        obtain ⟨i1, i2, i3⟩ := vsk_back (byt_drop hb k) h1
        obtain ⟨o1, o2⟩ := vfk_back hb hv
        have kl := vfk_len hv
        refine ⟨fun x hx => ?_, ?_, ?_⟩
        · rcases List.mem_cons.mp hx with rfl | hx
          · exact o1
          · exact i1 x hx
        · show keyV v ++ keyR r' = d
          rw [o2, i2, List.take_append_drop]
        · rw [List.length_drop] at i3
          rw [List.length_cons]
          omega
/-! natural numbers -/
def nat7 (n : Nat) : List Int := if n < 128 then [(n : Int)] else ((n % 128 + 128 : Nat) : Int) :: nat7 (n / 128)
termination_by n
theorem nat7_lt {n : Nat} (h : n < 128) : nat7 n = [(n : Int)] := by rw [nat7, if_pos h]
theorem nat7_ge {n : Nat} (h : ¬ n < 128) : nat7 n = ((n % 128 + 128 : Nat) : Int) :: nat7 (n / 128) := by rw [nat7, if_neg h]
/-- a number read: the flag: nothing is read yet -/
def nf : Bool → List Int → Option (Nat × Nat)
  | _, [] => none
  | f, b :: r => if b < 128 then (if b = 0 ∧ f = false then none else some ((b % 128).toNat, 1)) else (nf false r).map fun q => ((b % 128).toNat + 128 * q.1, q.2 + 1)
theorem nf_len : ∀ {f : Bool} {d : List Int} {m k : Nat}, nf f d = some (m, k) → 0 < k ∧ k ≤ d.length
  | f, [], m, k, h => by cases f <;> cases h
  | f, b :: r, m, k, h => by
    rw [nf] at h
    split at h
    · split at h
      · cases h
      · cases h; simp
    · obtain ⟨⟨m', k'⟩, h1, h2⟩ := Option.map_eq_some_iff.mp h
      cases h2
      have := nf_len h1
      simp only [List.length_cons]
      omega
theorem nf_nat7 (n : Nat) : ∀ (f : Bool) (r : List Int), (f = true ∨ n ≠ 0) → nf f (nat7 n ++ r) = some (n, (nat7 n).length) := by
  induction n using Nat.strongRecOn with
  | _ n ih =>
    intro f r h
    by_cases c : n < 128
    · rw [nat7_lt c]
      show nf f ((n : Int) :: r) = _
      have c2 : ¬ ((n : Int) = 0 ∧ f = false) := fun q => by
        rcases h with h | h
        · rw [h] at q; cases q.2
        · omega
      rw [nf, if_pos (by omega), if_neg c2]
      show some (((n : Int) % 128).toNat, 1) = some (n, 1)
      rw [show ((n : Int) % 128).toNat = n by omega]
    · rw [nat7_ge c]
      show nf f (((n % 128 + 128 : Nat) : Int) :: (nat7 (n / 128) ++ r)) = _
      rw [nf, if_neg (by omega), ih (n / 128) (by omega) false r (.inr (by omega))]
      show some ((((n % 128 + 128 : Nat) : Int) % 128).toNat + 128 * (n / 128), (nat7 (n / 128)).length + 1) = some (n, (nat7 (n / 128)).length + 1)
      rw [show (((n % 128 + 128 : Nat) : Int) % 128).toNat + 128 * (n / 128) = n by omega]
theorem nf_back : ∀ {f : Bool} {d : List Int} {m k : Nat}, Byt d → nf f d = some (m, k) → nat7 m = d.take k ∧ (f = true ∨ m ≠ 0)
  | f, [], m, k, _, h => by cases f <;> cases h
  | f, b :: r, m, k, hb, h => by
    have b1 := hb b List.mem_cons_self
    rw [nf] at h
    split at h
    · rename_i c
      split at h
      · cases h
      · rename_i c2
        cases h
        refine ⟨?_, ?_⟩
        · rw [nat7_lt (by omega)]
          show [(((b % 128).toNat : Nat) : Int)] = [b]
          rw [show (((b % 128).toNat : Nat) : Int) = b by omega]
        · cases f with
          | true => exact .inl rfl
          | false => exact .inr fun e => c2 ⟨by omega, rfl⟩
    · rename_i c
      obtain ⟨⟨m', k'⟩, h1, h2⟩ := Option.map_eq_some_iff.mp h
      cases h2
      obtain ⟨i1, i2⟩ := nf_back (fun x hx => hb x (List.mem_cons_of_mem _ hx)) h1
      have hm : m' ≠ 0 := by
        rcases i2 with i2 | i2
        · cases i2
        · exact i2
      refine ⟨?_, .inr (by omega)⟩
      rw [List.take_succ_cons, ← i1, nat7_ge (by omega)]
      rw [show (((((b % 128).toNat + 128 * m') % 128 + 128 : Nat)) : Int) = b by omega, show ((b % 128).toNat + 128 * m') / 128 = m' by omega]
theorem nat7_byt (n : Nat) : Byt (nat7 n) := by
  induction n using Nat.strongRecOn with
  | _ n ih =>
    by_cases c : n < 128
    · rw [nat7_lt c]
      intro b hb
      rw [List.mem_singleton.mp hb]
      omega
    · rw [nat7_ge c]
      intro b hb
      rcases List.mem_cons.mp hb with rfl | hb
      · omega
      · exact ih (n / 128) (by omega) b hb
theorem nat7_len (k : Nat) : ∀ n : Nat, n < 128 ^ (k + 1) → (nat7 n).length ≤ k + 1 := by
  induction k with
  | zero => intro n h; rw [nat7_lt (by simpa using h)]; exact Nat.le_refl _
  | succ k ih =>
    intro n h
    by_cases c : n < 128
    · rw [nat7_lt c]; simp
    · rw [nat7_ge c, List.length_cons]
      have := ih (n / 128) (by rw [Nat.pow_succ] at h; omega)
      omega
end M5
end

section
-- part K05R
set_option Elab.async false
set_option linter.all false
set_option maxRecDepth 100000
set_option maxHeartbeats 2000000
/-! K05R: records; core Lean -/
namespace M5
open PySem PySem.Spec PyProof.Rows L2 Fw
def zz (n : Int) : Nat := if 0 ≤ n then (2 * n).toNat else (-2 * n - 1).toNat
def uz (m : Nat) : Int := if m % 2 = 0 then (m / 2 : Nat) else -((m + 1) / 2 : Nat)
theorem uz_zz (n : Int) : uz (zz n) = n := by
  unfold uz zz
  split <;> split <;> omega
theorem zz_uz (m : Nat) : zz (uz m) = m := by
  unfold uz zz
  split <;> split <;> omega
def sgR (l : List Nat) : List Int := l.map fun c => ((sgn c : Nat) : Int)
def recV : RV → List Int
  | .non => [1]
  | .txt l => 3 :: (nat7 l.length ++ sgR l)
  | .num n => 2 :: nat7 (zz n)
def recR (r : List RV) : List Int := nat7 r.length ++ r.flatMap recV
def sgs : List Int → Option (List Nat)
  | [] => some []
  | b :: r => match chr b with
    | none => none
    | some c => (sgs r).map (c :: ·)
theorem sgs_sg : ∀ l : List Nat, (∀ c ∈ l, c ∈ alphabet) → sgs (sgR l) = some l
  | [], _ => rfl
  | c :: l, h => by
    show sgs (((sgn c : Nat) : Int) :: sgR l) = _
    rw [sgs, chr_sgn (h c List.mem_cons_self), sgs_sg l fun x hx => h x (List.mem_cons_of_mem _ hx)]
    rfl
theorem sgs_back : ∀ {d : List Int} {l : List Nat}, sgs d = some l → (∀ c ∈ l, c ∈ alphabet) ∧ sgR l = d
  | [], l, h => by cases h; exact ⟨fun c hc => absurd hc List.not_mem_nil, rfl⟩
  | b :: r, l, h => by
    rw [sgs] at h
    split at h
    · cases h
    · rename_i c hc
      obtain ⟨l', h1, h2⟩ := Option.map_eq_some_iff.mp h
      subst h2
      obtain ⟨i1, i2⟩ := sgs_back h1
      obtain ⟨c1, c2⟩ := chr_ok hc
      refine ⟨fun x hx => ?_, ?_⟩
      · rcases List.mem_cons.mp hx with rfl | hx
        · exact c1
        · exact i1 x hx
      · show (sgn c : Int) :: sgR l' = _
        rw [c2, i2]
/-- a value from a record's bytes, and how many it takes -/
def vfr : List Int → Option (RV × Nat)
  | [] => none
  | b :: r => if b = 1 then some (.non, 1) else match nf true r with
    | none => none
    | some (m, k) =>
      if b = 2 then (if -HI ≤ uz m ∧ uz m ≤ HI then some (.num (uz m), k + 1) else none)
      else if b ≠ 3 ∨ (r.drop k).length < m then none
      else (sgs ((r.drop k).take m)).map fun l => (.txt l, k + 1 + m)
theorem vfr_len {d : List Int} {v : RV} {k : Nat} (h : vfr d = some (v, k)) : 0 < k ∧ k ≤ d.length := by
  cases d with
  | nil => cases h
  | cons b r =>
    rw [vfr] at h
    split at h
    · cases h; simp
    · split at h
      · cases h
      · rename_i m k' hn
        have := nf_len hn
        split at h
        · split at h
          · cases h; simp only [List.length_cons]; omega
          · cases h
        · split at h
          · cases h
          · rename_i c
            obtain ⟨l, h1, h2⟩ := Option.map_eq_some_iff.mp h
            cases h2
            rw [List.length_drop] at c
            simp only [List.length_cons]
            omega
theorem vfr_rec (v : RV) (r : List Int) (h : okV v) : vfr (recV v ++ r) = some (v, (recV v).length) := by
  cases v with
  | non =>
    show vfr (1 :: r) = _
    rw [vfr, if_pos rfl]
    rfl
  | num n =>
    have hn : -HI ≤ n ∧ n ≤ HI := h
    show vfr (2 :: (nat7 (zz n) ++ r)) = _
    rw [vfr, if_neg (by decide), nf_nat7 _ true r (.inl rfl)]
    dsimp only
    rw [if_pos rfl, uz_zz, if_pos hn]
    rfl
  | txt l =>
    have e1 : (nat7 l.length ++ sgR l ++ r).drop (nat7 l.length).length = sgR l ++ r := by
      rw [List.append_assoc, List.drop_append, List.drop_of_length_le (Nat.le_refl _), Nat.sub_self, List.drop_zero, List.nil_append]
    have el : (sgR l).length = l.length := by simp [sgR]
    have e2 : (sgR l ++ r).take l.length = sgR l := by rw [← el]; simp
    show vfr (3 :: (nat7 l.length ++ sgR l ++ r)) = _
    rw [vfr, if_neg (by decide), List.append_assoc, nf_nat7 _ true _ (.inl rfl), ← List.append_assoc]
    dsimp only
    rw [if_neg (by decide), e1, if_neg (by rw [List.length_append, el]; intro q; rcases q with q | q; exact q rfl; omega), e2, sgs_sg l h]
    show some (RV.txt l, (nat7 l.length).length + 1 + l.length) = some (RV.txt l, (3 :: (nat7 l.length ++ sgR l)).length)
    rw [List.length_cons, List.length_append, el, show (nat7 l.length).length + 1 + l.length = (nat7 l.length).length + l.length + 1 by omega]
theorem vfr_back {d : List Int} {v : RV} {k : Nat} (hb : Byt d) (h : vfr d = some (v, k)) : okV v ∧ recV v = d.take k := by
  cases d with
  | nil => cases h
  | cons b r =>
    have hbr : Byt r := fun x hx => hb x (List.mem_cons_of_mem _ hx)
    rw [vfr] at h
    split at h
    · rename_i e
      cases h
      subst e
      exact ⟨trivial, rfl⟩
    · split at h
      · cases h
      · rename_i m k' hn
        obtain ⟨n1, _⟩ := nf_back hbr hn
        have nl := nf_len hn
        split at h
        · rename_i e
          subst e
          split at h
          · rename_i c
            cases h
            refine ⟨c, ?_⟩
            show 2 :: nat7 (zz (uz m)) = _
            rw [zz_uz, n1, List.take_succ_cons]
          · cases h
        · split at h
          · cases h
          · rename_i c
            obtain ⟨l, h1, h2⟩ := Option.map_eq_some_iff.mp h
            cases h2
            obtain ⟨i1, i2⟩ := sgs_back h1
            have b3 : b = 3 := by
              by_cases q : b = 3
              · exact q
              · exact absurd (.inl q) c
            subst b3
            have el : l.length = m := by
              have e3 : (sgR l).length = l.length := by simp [sgR]
              rw [← e3, i2, List.length_take]
              rw [List.length_drop] at c
              rw [List.length_drop]
              omega
            refine ⟨i1, ?_⟩
            show 3 :: (nat7 l.length ++ sgR l) = _
            rw [el, n1, i2, show k' + 1 + m = (k' + m) + 1 by omega, List.take_succ_cons, List.take_add]
/-- so many values of a record, and the bytes they take -/
def vsr : Nat → List Int → Option (List RV × Nat)
  | 0, _ => some ([], 0)
  | n + 1, d => match vfr d with
    | none => none
    | some (v, k) => (vsr n (d.drop k)).map fun q => (v :: q.1, k + q.2)
theorem vsr_rec : ∀ (r : List RV) (t : List Int), (∀ v ∈ r, okV v) → vsr r.length (r.flatMap recV ++ t) = some (r, (r.flatMap recV).length)
  | [], t, _ => rfl
  | v :: r, t, h => by
    have e : (v :: r).flatMap recV ++ t = recV v ++ (r.flatMap recV ++ t) := by simp
    rw [e, List.length_cons, vsr, vfr_rec v _ (h v List.mem_cons_self)]
    dsimp only
    rw [List.drop_append, List.drop_of_length_le (Nat.le_refl _), Nat.sub_self, List.drop_zero, List.nil_append, vsr_rec r t fun x hx => h x (List.mem_cons_of_mem _ hx)]
    show some (v :: r, (recV v).length + (r.flatMap recV).length) = some (v :: r, ((v :: r).flatMap recV).length)
    simp
theorem vsr_back : ∀ {n : Nat} {d : List Int} {r : List RV} {k : Nat}, Byt d → vsr n d = some (r, k) → (∀ v ∈ r, okV v) ∧ r.flatMap recV = d.take k ∧ r.length = n ∧ n ≤ k ∧ k ≤ d.length
  | 0, d, r, k, _, h => by cases h; exact ⟨fun v hv => absurd hv List.not_mem_nil, by simp, rfl, Nat.le_refl _, Nat.zero_le _⟩
  | n + 1, d, r, k, hb, h => by
    rw [vsr] at h
    split at h
    · cases h
    · rename_i v k1 hv
      obtain ⟨⟨r', k2⟩, h1, h2⟩ := Option.map_eq_some_iff.mp h
      cases h2
      obtain ⟨i1, i2, i3, i4, i5⟩ := vsr_back (byt_drop hb k1) h1
      obtain ⟨o1, o2⟩ := vfr_back hb hv
      have kl := vfr_len hv
      rw [List.length_drop] at i5
      refine ⟨fun x hx => ?_, ?_, by rw [List.length_cons, i3], by omega, by omega⟩
      · rcases List.mem_cons.mp hx with rfl | hx
        · exact o1
        · exact i1 x hx
      · show recV v ++ r'.flatMap recV = _
        rw [o2, i2, ← List.take_add]
/-- a row from a record -/
def rowOf (d : List Int) : Option (List RV) := match nf true d with
  | none => none
  | some (m, k) => match vsr m (d.drop k) with
    | none => none
    | some (r, j) => if k + j = d.length then some r else none
theorem rowOf_rec {r : List RV} (h : ∀ v ∈ r, okV v) : rowOf (recR r) = some r := by
  have e := vsr_rec r [] h
  rw [List.append_nil] at e
  rw [rowOf, recR, nf_nat7 _ true _ (.inl rfl)]
  dsimp only
  rw [List.drop_append, List.drop_of_length_le (Nat.le_refl _), Nat.sub_self, List.drop_zero, List.nil_append, e]
  dsimp only
  rw [if_pos (by rw [List.length_append])]
theorem rowOf_back {d : List Int} {r : List RV} (hb : Byt d) (h : rowOf d = some r) : (∀ v ∈ r, okV v) ∧ recR r = d ∧ r.length ≤ d.length := by
  rw [rowOf] at h
  split at h
  · cases h
  · rename_i m k hn
    split at h
    · cases h
    · rename_i r' j hv
      split at h
      · rename_i e
        cases h
        obtain ⟨n1, _⟩ := nf_back hb hn
        obtain ⟨i1, i2, i3, i4, i5⟩ := vsr_back (byt_drop hb k) hv
        refine ⟨i1, ?_, by omega⟩
        rw [List.length_drop] at i5
        have e3 : (d.drop k).take j = d.drop k := List.take_of_length_le (by rw [List.length_drop]; omega)
        rw [recR, i3, n1, i2, e3, List.take_append_drop]
      · cases h
theorem sgR_byt {l : List Nat} (h : ∀ c ∈ l, c ∈ alphabet) : Byt (sgR l) := by
  intro b hb
  obtain ⟨c, hc, rfl⟩ := List.mem_map.mp hb
  have := (sgn_ok (h c hc)).1
  omega
theorem recV_byt {v : RV} (h : okV v) : Byt (recV v) := by
  cases v with
  | non => intro b hb; rw [List.mem_singleton.mp hb]; decide
  | num n =>
    intro b hb
    rcases List.mem_cons.mp hb with rfl | hb
    · decide
    · exact nat7_byt _ b hb
  | txt l =>
    intro b hb
    rcases List.mem_cons.mp hb with rfl | hb
    · decide
    · rcases List.mem_append.mp hb with hb | hb
      · exact nat7_byt _ b hb
      · exact sgR_byt h b hb
theorem recR_byt {r : List RV} (h : ∀ v ∈ r, okV v) : Byt (recR r) := by
  intro b hb
  rcases List.mem_append.mp hb with hb | hb
  · exact nat7_byt _ b hb
  · obtain ⟨v, hv, hb⟩ := List.mem_flatMap.mp hb
    exact recV_byt (h v hv) b hb
/-! the least key above a prefix -/
def upLen (d : List Int) : Nat := (d.reverse.dropWhile (· == 255)).length
theorem upLen_le (d : List Int) : upLen d ≤ d.length := by
  unfold upLen
  have := List.dropWhile_sublist (p := (· == (255 : Int))) (l := d.reverse)
  have := this.length_le
  simpa using this
theorem upLen_snoc (d : List Int) (b : Int) : upLen (d ++ [b]) = if b = 255 then upLen d else d.length + 1 := by
  unfold upLen
  rw [List.reverse_append, List.reverse_singleton, List.singleton_append, List.dropWhile_cons]
  by_cases h : b = 255
  · simp [h]
  · simp [h]
theorem upLen_pos {d : List Int} {b : Int} (h : b ∈ d) (hb : b ≠ 255) : 0 < upLen d := by
  rw [← List.reverse_reverse d] at h ⊢
  generalize d.reverse = e at *
  induction e with
  | nil => cases h
  | cons c e ih =>
    rw [List.reverse_cons] at h ⊢
    rw [upLen_snoc]
    split
    · rename_i q
      refine ih ?_
      rcases List.mem_append.mp h with h | h
      · exact h
      · rw [List.mem_singleton.mp h] at hb
        exact absurd q hb
    · omega
def upper (d : List Int) : Option (List Int) := if upLen d = 0 then none else some (d.take (upLen d - 1) ++ [d.getD (upLen d - 1) 0 + 1])
theorem upper_ok {d : List Int} (h : 0 < upLen d) (q : List Int) : ∃ u, upper d = some u ∧ HT.lexLt (d ++ q) u = true ∧ u.length = upLen d ∧ u.take (upLen d - 1) = d.take (upLen d - 1) := by
  have hl := upLen_le d
  refine ⟨d.take (upLen d - 1) ++ [d.getD (upLen d - 1) 0 + 1], by rw [upper, if_neg (by omega)], ?_, ?_, ?_⟩
  · have hlt : upLen d - 1 < d.length := by omega
    have e : d = d.take (upLen d - 1) ++ d[upLen d - 1] :: d.drop (upLen d - 1 + 1) := by
      rw [← List.drop_eq_getElem_cons hlt, List.take_append_drop]
    have e2 : d.getD (upLen d - 1) 0 = d[upLen d - 1] := by simp [List.getD, List.getElem?_eq_getElem hlt]
    have dv : Div (d ++ q) (d.take (upLen d - 1) ++ [d.getD (upLen d - 1) 0 + 1]) true :=
      ⟨d.take (upLen d - 1), d[upLen d - 1], d.getD (upLen d - 1) 0 + 1, d.drop (upLen d - 1 + 1) ++ q, [], by
        have e4 : d ++ q = (d.take (upLen d - 1) ++ d[upLen d - 1] :: d.drop (upLen d - 1 + 1)) ++ q := by rw [← e]
        rw [e4, List.append_assoc, List.cons_append], rfl, by rw [e2]; omega, by rw [e2]; exact (decide_eq_true (by omega)).symm⟩
    exact dv.lex
  · rw [List.length_append, List.length_take, List.length_singleton]
    omega
  · rw [List.take_append, List.take_take, Nat.min_self, List.length_take, show upLen d - 1 - min (upLen d - 1) d.length = 0 by omega, List.take_zero, List.append_nil]
end M5
end

section
-- part K10M
set_option Elab.async false
set_option linter.all false
set_option maxRecDepth 100000
set_option maxHeartbeats 2000000
/-! K10M: frames, records and groups of a log; core Lean -/
namespace M10
open M5
abbrev Img := Nat × List Int
abbrev Grp := Nat × List Img
def ckStep (s : Int × Int) (b : Int) : Int × Int := ((s.1 + b) % 65521, (s.2 + (s.1 + b) % 65521) % 65521)
def ck (d : List Int) : Int × Int := d.foldl ckStep (1, 0)
def sum4 (p : List Int) : List Int := fixedL (65536 * (ck p).2 + (ck p).1) 4
def frameL (p : List Int) : List Int := fixedL (p.length : Int) 4 ++ (p ++ sum4 p)
theorem frame_len (p : List Int) : (frameL p).length = p.length + 8 := by
  simp only [frameL, sum4, List.length_append, fixed_len]
  omega
theorem drop_lt {d : List Int} {n : Nat} (h : 4 ≤ d.length) : (d.drop (n + 8)).length < d.length := by
  rw [List.length_drop]
  omega
/-- the bytes of a log's records -/
def frs (d : List Int) : List (List Int) :=
  if h : 4 ≤ d.length then
    if d.length < (fromL (d.take 4)).toNat + 8 ∨ (d.drop ((fromL (d.take 4)).toNat + 4)).take 4 ≠ sum4 ((d.drop 4).take (fromL (d.take 4)).toNat) then []
    else (d.drop 4).take (fromL (d.take 4)).toNat :: frs (d.drop ((fromL (d.take 4)).toNat + 8))
  else []
termination_by d.length
decreasing_by exact drop_lt h
inductive Rc where
  | img (n : Nat) (b : List Int)
  | fin (n : Nat)
def recO : List Int → Option Rc
  | [] => none
  | b :: r => if b = 1 ∨ b = 2 then (match nf true r with
    | none => none
    | some (m, k) => if b = 1 then some (.img m (r.drop k)) else if k = r.length then some (.fin m) else none) else none
def grs : List (List Int) → List Img → List Grp
  | [], _ => []
  | p :: ps, im => match recO p with
    | none => []
    | some (.img n b) => grs ps (im ++ [(n, b)])
    | some (.fin n) => (n, im) :: grs ps []
def imgP (i : Img) : List Int := 1 :: (nat7 i.1 ++ i.2)
def endP (n : Nat) : List Int := 2 :: nat7 n
def grpB (g : Grp) : List Int := g.2.flatMap (fun i => frameL (imgP i)) ++ frameL (endP g.1)
def logB (gs : List Grp) : List Int := gs.flatMap grpB
def Fits (p : List Int) : Prop := p.length < 256 ^ 4
theorem frs_frame {p : List Int} (h : Fits p) (r : List Int) : frs (frameL p ++ r) = p :: frs r := by
  have e4 : (frameL p ++ r).take 4 = fixedL (p.length : Int) 4 := by
    rw [frameL, List.append_assoc, List.take_append_of_le_length (by rw [fixed_len]; exact Nat.le_refl _), List.take_of_length_le (by rw [fixed_len]; exact Nat.le_refl _)]
  have hp : ((p.length : Nat) : Int) < 256 ^ 4 := by
    have h : p.length < 256 ^ 4 := h
    have e : (256 : Nat) ^ 4 = 4294967296 := by decide
    have e2 : (256 : Int) ^ 4 = 4294967296 := by decide
    omega
  have en : (fromL ((frameL p ++ r).take 4)).toNat = p.length := by
    rw [e4, from_fixed 4 _ (by omega) hp]
    rfl
  have hl := frame_len p
  have d4 : (frameL p ++ r).drop 4 = p ++ (sum4 p ++ r) := by
    rw [frameL, List.append_assoc, List.drop_append_of_le_length (by rw [fixed_len]; exact Nat.le_refl _), List.drop_of_length_le (by rw [fixed_len]; exact Nat.le_refl _)]
    simp
  have dp : ((frameL p ++ r).drop 4).take p.length = p := by rw [d4]; simp
  have ds : ((frameL p ++ r).drop (p.length + 4)).take 4 = sum4 p := by
    rw [show p.length + 4 = 4 + p.length by omega, ← List.drop_drop, d4]
    have l4 : (sum4 p).length = 4 := fixed_len _ _
    simp [l4]
  have dr : (frameL p ++ r).drop (p.length + 8) = r := by
    rw [← hl]; simp
  rw [frs, en, dp, ds, dr, dif_pos (by rw [List.length_append]; omega), if_neg]
  rintro (z | z)
  · rw [List.length_append] at z; omega
  · exact z rfl
theorem frs_short {d : List Int} (h : d.length < 4) : frs d = [] := by rw [frs, dif_neg (by omega)]
/-- a record that is cut -/
theorem frs_cut {p : List Int} (h : Fits p) (r : List Int) {k : Nat} (hk : k < p.length + 8) : frs ((frameL p ++ r).take k) = [] := by
  by_cases c : 4 ≤ k
  · have hl := frame_len p
    have e4 : ((frameL p ++ r).take k).take 4 = fixedL (p.length : Int) 4 := by
      rw [List.take_take, Nat.min_eq_left c, frameL, List.append_assoc, List.take_append_of_le_length (by rw [fixed_len]; exact Nat.le_refl _), List.take_of_length_le (by rw [fixed_len]; exact Nat.le_refl _)]
    have hp : ((p.length : Nat) : Int) < 256 ^ 4 := by
      have h : p.length < 256 ^ 4 := h
      have e : (256 : Nat) ^ 4 = 4294967296 := by decide
      have e2 : (256 : Int) ^ 4 = 4294967296 := by decide
      omega
    have en : (fromL (((frameL p ++ r).take k).take 4)).toNat = p.length := by
      rw [e4, from_fixed 4 _ (by omega) hp]
      rfl
    rw [frs, en]
    split
    · rw [if_pos (.inl (by rw [List.length_take]; omega))]
    · rfl
  · exact frs_short (by rw [List.length_take]; omega)
def okI (i : Img) : Prop := Fits (imgP i)
def okG (g : Grp) : Prop := (∀ i ∈ g.2, okI i) ∧ Fits (endP g.1)
def recsG (g : Grp) : List (List Int) := g.2.map imgP ++ [endP g.1]
theorem rec_img (i : Img) : recO (imgP i) = some (.img i.1 i.2) := by
  simp [recO, imgP, nf_nat7 i.1 true i.2 (.inl rfl)]
theorem rec_end (n : Nat) : recO (endP n) = some (.fin n) := by
  have := nf_nat7 n true [] (.inl rfl)
  rw [List.append_nil] at this
  simp [recO, endP, this]
theorem grs_imgs : ∀ (is : List Img) (ps : List (List Int)) (im : List Img), grs (is.map imgP ++ ps) im = grs ps (im ++ is)
  | [], ps, im => by simp
  | i :: is, ps, im => by
    rw [List.map_cons, List.cons_append, grs, rec_img]
    show grs (is.map imgP ++ ps) (im ++ [(i.1, i.2)]) = _
    rw [grs_imgs is ps]
    simp
theorem grs_group (g : Grp) (ps : List (List Int)) : grs (recsG g ++ ps) [] = g :: grs ps [] := by
  rw [recsG, List.append_assoc, grs_imgs, List.nil_append, List.singleton_append, grs, rec_end]
/-- the whole log -/
theorem frs_imgs : ∀ (is : List Img) (r : List Int), (∀ i ∈ is, okI i) → frs (is.flatMap (fun i => frameL (imgP i)) ++ r) = is.map imgP ++ frs r
  | [], r, _ => rfl
  | i :: is, r, h => by
    rw [List.flatMap_cons, List.append_assoc, frs_frame (h i List.mem_cons_self), frs_imgs is r fun j hj => h j (List.mem_cons_of_mem _ hj)]
    rfl
theorem frs_group {g : Grp} (h : okG g) (r : List Int) : frs (grpB g ++ r) = recsG g ++ frs r := by
  rw [grpB, List.append_assoc, frs_imgs _ _ h.1, frs_frame h.2, recsG]
  simp
theorem frs_log : ∀ {gs : List Grp} (r : List Int), (∀ g ∈ gs, okG g) → frs (logB gs ++ r) = gs.flatMap recsG ++ frs r
  | [], r, _ => rfl
  | g :: gs, r, h => by
    show frs (grpB g ++ logB gs ++ r) = _
    rw [List.append_assoc, frs_group (h g List.mem_cons_self), frs_log r fun j hj => h j (List.mem_cons_of_mem _ hj), List.flatMap_cons, List.append_assoc]
theorem grs_log : ∀ (gs : List Grp) (ps : List (List Int)), grs (gs.flatMap recsG ++ ps) [] = gs ++ grs ps []
  | [], ps => rfl
  | g :: gs, ps => by
    rw [List.flatMap_cons, List.append_assoc, grs_group, grs_log gs ps]
    rfl
theorem read_log {gs : List Grp} (h : ∀ g ∈ gs, okG g) : grs (frs (logB gs)) [] = gs := by
  have := frs_log (gs := gs) [] h
  rw [List.append_nil, frs_short (d := []) (by decide), List.append_nil] at this
  have g2 := grs_log gs []
  rw [List.append_nil] at g2
  rw [this, g2]
  exact List.append_nil gs
/-- a log that is cut -/
theorem grs_imgs_cut : ∀ (is : List Img) (n : Nat) (r : List Int) (im : List Img) (k : Nat), (∀ i ∈ is, okI i) → Fits (endP n) → k < (is.flatMap (fun i => frameL (imgP i)) ++ frameL (endP n)).length →
    grs (frs ((is.flatMap (fun i => frameL (imgP i)) ++ frameL (endP n) ++ r).take k)) im = []
  | [], n, r, im, k, _, hn, hk => by
    rw [List.flatMap_nil, List.nil_append] at hk ⊢
    rw [frs_cut hn r (by rw [← frame_len]; exact hk)]
    rfl
  | i :: is, n, r, im, k, h, hn, hk => by
    have hi := h i List.mem_cons_self
    rw [List.flatMap_cons, List.append_assoc, List.append_assoc] at *
    by_cases c : k < (imgP i).length + 8
    · rw [frs_cut hi _ c]
      rfl
    · have hl := frame_len (imgP i)
      obtain ⟨j, rfl⟩ : ∃ j, k = (frameL (imgP i)).length + j := ⟨k - (frameL (imgP i)).length, by omega⟩
      rw [List.take_length_add_append, frs_frame hi, grs, rec_img]
      show grs _ (im ++ [(i.1, i.2)]) = []
      rw [← List.append_assoc]
      refine grs_imgs_cut is n r _ j (fun x hx => h x (List.mem_cons_of_mem _ hx)) hn ?_
      rw [List.length_append] at hk
      omega
def cutG : List Grp → Nat → List Grp
  | [], _ => []
  | g :: gs, c => if (grpB g).length ≤ c then g :: cutG gs (c - (grpB g).length) else []
theorem read_cut : ∀ {gs : List Grp} (c : Nat), (∀ g ∈ gs, okG g) → grs (frs ((logB gs).take c)) [] = cutG gs c
  | [], c, _ => by
    rw [show (logB []).take c = [] by simp [logB], frs_short (by decide)]
    rfl
  | g :: gs, c, h => by
    have hg := h g List.mem_cons_self
    show grs (frs ((grpB g ++ logB gs).take c)) [] = _
    rw [cutG]
    split
    · rename_i hc
      obtain ⟨j, rfl⟩ : ∃ j, c = (grpB g).length + j := ⟨c - (grpB g).length, by omega⟩
      rw [List.take_length_add_append, frs_group hg, grs_group, read_cut j fun x hx => h x (List.mem_cons_of_mem _ hx)]
      rw [show (grpB g).length + j - (grpB g).length = j by omega]
    · rename_i hc
      exact grs_imgs_cut g.2 g.1 _ [] c hg.1 hg.2 (by show c < (grpB g).length; omega)
/-- as the law reads -/
def lrd (d : List Int) (im : List Img) : List Grp :=
  if h : 8 ≤ d.length then
    if d.length < (fromL (d.take 4)).toNat + 8 ∨ sum4 ((d.drop 4).take (fromL (d.take 4)).toNat) ≠ (d.drop ((fromL (d.take 4)).toNat + 4)).take 4 then []
    else match recO ((d.drop 4).take (fromL (d.take 4)).toNat) with
      | none => []
      | some (.img n b) => lrd (d.drop ((fromL (d.take 4)).toNat + 8)) (im ++ [(n, b)])
      | some (.fin n) => (n, im) :: lrd (d.drop ((fromL (d.take 4)).toNat + 8)) []
  else []
termination_by d.length
decreasing_by all_goals exact drop_lt (by omega)
theorem lrd_eq (d : List Int) (im : List Img) : lrd d im = grs (frs d) im := by
  generalize hn : d.length = n
  induction n using Nat.strongRecOn generalizing d im with
  | _ n ih =>
    rw [lrd, frs]
    by_cases c8 : 8 ≤ d.length
    · rw [dif_pos c8, dif_pos (by omega : 4 ≤ d.length)]
      by_cases c : d.length < (fromL (d.take 4)).toNat + 8 ∨ (d.drop ((fromL (d.take 4)).toNat + 4)).take 4 ≠ sum4 ((d.drop 4).take (fromL (d.take 4)).toNat)
      · rw [if_pos c, if_pos (c.imp id fun z => Ne.symm z)]
        rfl
      · rw [if_neg c, if_neg (fun z => c (z.imp id fun z => Ne.symm z)), grs]
        have hlt := drop_lt (d := d) (n := (fromL (d.take 4)).toNat) (by omega)
        cases recO ((d.drop 4).take (fromL (d.take 4)).toNat) with
        | none => rfl
        | some r =>
          cases r with
          | img n b => exact ih _ (by omega) _ _ rfl
          | fin n =>
            show (n, im) :: _ = (n, im) :: _
            rw [ih _ (by omega) _ _ rfl]
    · rw [dif_neg c8]
      split
      · rw [if_pos (.inl (by omega))]
        rfl
      · rfl
end M10
end

section
-- part Gk
set_option Elab.async false
set_option linter.all false
set_option maxRecDepth 100000
set_option maxHeartbeats 2000000
/-! Gk: what the laws share: ints as data, slices, heaps -/
namespace Gk
open PySem PySem.Spec PyProof.Rows L2 Fw M5 M10 LamX
section
variable {P : Program} {w : World} {K : PySem.W.Frag} {mg : Str → Option Value} {base : Heap} {X : Cx} {σ : L2.St} {H : Hp} {Q : VK} {a b : Addr} {d e : List Int} {te : TE} {vs : List Nat} {tt : TT} {g : TG} {ta : TA}
def Cin (mg : Str → Option Value) (x : Str) (n : Int) : Prop := ∃ u, mg x = some u ∧ RelV (.int n) u
structure Ex (K : PySem.W.Frag) (mg : Str → Option Value) (x : Str) (C : Addr) : Prop where
  ox : PySem.W.excIn K C [.type "ValueError", .type "Exception", .type "BaseException", .type "object"] "ValueError.__new__" = true
  og : mg x = some (.ref C)
  ok : PySem.W.keepIn K (.ref C) = true
  ob : PySem.W.subIn K (.ref C) (.type "BaseException") = some true
  ot : PySem.W.typeIn K (.ref C) = some (.type "type")
theorem same_upd {H H' : Hp} {L : Addr} {o : HO} (s : Same H H') (hL : H L = none) : Same H (upd H' L o) := fun b u e => by rw [upd_ne (ne_of_none e hL)]; exact s _ _ e
/-- a new tuple of ints -/
def GivesT (H : Hp) (Q : VK) (d : List Int) : Prop := ∀ (p : Addr) (H' : Hp), Same H H' → H p = none → H' p = some (.tup (d.map V.int)) → Q (.ref p) H'
def spFixed : Sp := fun vs H Q _ => ∃ (n : Int) (k : Nat), vs = [.int n, .int (k : Int)] ∧ k ≤ 64 ∧ GivesT H Q (fixedL n k)
def spNumF (K : PySem.W.Frag) : Sp := fun vs H Q _ => ∃ (a : Addr) (d : List Int), vs = [.ref a] ∧ SqT K H a (d.map V.int) ∧ Q (.int (fromL d)) H
theorem fromL_take {d : List Int} {i : Nat} {b : Int} (h : d[i]? = some b) : fromL (d.take (i + 1)) = fromL (d.take i) * 256 + b := by
  rw [List.take_add_one, h]
  exact fromL_snoc _ _
theorem ints_get {d : List Int} {i : Nat} {x : V} (h : (d.map V.int)[i]? = some x) : ∃ b, d[i]? = some b ∧ x = .int b := by
  rw [List.getElem?_map] at h
  cases e : d[i]? with
  | none => rw [e] at h; cases h
  | some b => rw [e] at h; exact ⟨b, rfl, (Option.some.inj h).symm⟩
/-- a new pair (value, place) -/
def Pair (H : Hp) (Q : VK) (v : V) (e : Nat) : Prop := ∀ (q : Addr) (H' : Hp), Same H H' → H q = none → H' q = some (.tup [v, .int (e : Int)]) → Q (.ref q) H'
def Fails (H : Hp) (E : XK) (C : Addr) : Prop := ∀ H', Same H H' → E (.ref C) none H'
theorem int_get {d : List Int} {i : Nat} {b : Int} (h : d[i]? = some b) : atI (d.map V.int) (i : Int) = some (.int b) := atI_nat (by rw [List.getElem?_map, h]; rfl)
theorem w_ixT {K : PySem.W.Frag} {a : Addr} {d : List Int} {i : Nat} {b : Int} {H : Hp} {Q : VK} (hS : SqT K H a (d.map V.int)) (h : d[i]? = some b) (q : Q (.int b) H) : rIxT K (.ref a) (.int (i : Int)) H Q := ⟨a, _, _, _, rfl, rfl, hS, int_get h, q⟩
theorem w_lenT {K : PySem.W.Frag} {a : Addr} {d : List Int} {H : Hp} {R : V → Hp → Prop} (hS : SqT K H a (d.map V.int)) (q : R (.int (d.length : Int)) H) : ∃ p xs, [V.ref a] = [.ref p] ∧ (SqL K H p xs ∨ SqT K H p xs) ∧ R (.int (xs.length : Int)) H :=
  ⟨a, d.map V.int, rfl, .inr hS, by rw [List.length_map]; exact q⟩
def spNat : Sp := fun vs H Q _ => ∃ n : Nat, vs = [.int (n : Int)] ∧ n < 128 ^ 200 ∧ GivesT H Q (nat7 n)
theorem ck_gen : ∀ (d : List Int) (a b : Int), d.foldl ckStep (a % 65521, b % 65521) = ((a + d.sum) % 65521, (b + d.length * a + accI 0 d) % 65521)
  | [], a, b => by simp [accI]
  | x :: r, a, b => by
    have e : ckStep (a % 65521, b % 65521) x = ((a + x) % 65521, (b + (a + x)) % 65521) := by
      unfold ckStep
      congr 1 <;> omega
    rw [List.foldl_cons, e, ck_gen r (a + x) (b + (a + x)), List.sum_cons]
    have e2 : accI 0 (x :: r) = x + (r.length * x + accI 0 r) := by
      show 0 + x + accI (0 + x) r = _
      rw [accI_add (0 + x) r, Int.zero_add]
    rw [e2, List.length_cons, Int.natCast_add, Int.add_mul, Int.mul_add, Int.natCast_one, Int.one_mul]
    congr 1 <;> congr 1 <;> omega
theorem ck_sums (d : List Int) : ck d = ((1 + d.sum) % 65521, ((d.length : Int) + accI 0 d) % 65521) := by
  have := ck_gen d 1 0
  rw [Int.mul_one, Int.zero_add] at this
  exact this
theorem sqT_same {H H' : Hp} {a : Addr} {xs : List V} (h : SqT K H a xs) (s : Same H H') : SqT K H' a xs := by
  rcases h with (h | ⟨o, h⟩) | h
  · exact .inl (.inl (s _ _ h))
  · exact .inl (.inr ⟨o, s _ _ h⟩)
  · exact .inr h
theorem sqL_same {H H' : Hp} {a : Addr} {xs : List V} (h : SqL K H a xs) (s : Same H H') : SqL K H' a xs := by
  rcases h with (h | ⟨o, h⟩) | h
  · exact .inl (.inl (s _ _ h))
  · exact .inl (.inr ⟨o, s _ _ h⟩)
  · exact .inr h
theorem w_gtupS {n : Nat} {t : TGs} {xs : List V} {Q : L2.St → Hp → Prop} (h : SqT K H a xs) (hn : xs.length = n) (q : t xs σ H Q) : gTup K n t (.ref a) σ H Q := ⟨a, xs, rfl, h, hn, q⟩
theorem sqT_ex {H H' : Hp} {a : Addr} {xs : List V} (h : SqT K H a xs) (s : ExtN H H') : SqT K H' a xs := by
  rcases h with (h | ⟨o, h⟩) | h
  · exact .inl (.inl (s _ _ h (fun ps e => by cases e)))
  · exact .inl (.inr ⟨o, s _ _ h (fun ps e => by cases e)⟩)
  · exact .inr h
theorem sqL_ex {H H' : Hp} {a : Addr} {xs : List V} (h : SqL K H a xs) (s : ExtN H H') : SqL K H' a xs := by
  rcases h with (h | ⟨o, h⟩) | h
  · exact .inl (.inl (s _ _ h (fun ps e => by cases e)))
  · exact .inl (.inr ⟨o, s _ _ h (fun ps e => by cases e)⟩)
  · exact .inr h
theorem lenR {xs : List Int} {f : Int → V} : (xs.map f).length = xs.length := List.length_map ..
theorem ints_shaped (ns : List Int) : SeqAt.shaped (.tuple (ns.map PyData.int)) = true := by
  have h1 : PyData.canLayAll0 (ns.map PyData.int) = true := by
    induction ns with
    | nil => rfl
    | cons n r ih => rw [List.map_cons, PyData.canLayAll0, ih]; rfl
  have h2 : PyData.depthAll (ns.map PyData.int) ≤ 1 := by
    induction ns with
    | nil => simp [PyData.depthAll]
    | cons n r ih =>
      have h3 := ih (by rw [List.map_cons, PyData.canLayAll0, Bool.and_eq_true] at h1; exact h1.2)
      simp only [List.map_cons, PyData.depthAll, PyData.depth]
      omega
  unfold SeqAt.shaped
  rw [Bool.and_eq_true]
  refine ⟨h1, decide_eq_true ?_⟩
  simp only [PyData.depth]
  omega
theorem ints_eqv : ∀ ns ms : List Int, PyData.eqvAll (ns.map PyData.int) (ms.map PyData.int) = decide (ns = ms)
  | [], [] => rfl
  | n :: r, [] => by simp [PyData.eqvAll]
  | [], m :: t => by simp [PyData.eqvAll]
  | n :: r, m :: t => by
    rw [List.map_cons, List.map_cons, PyData.eqvAll, ints_eqv r t, PyData.eqv]
    by_cases c : n = m <;> by_cases c2 : r = t <;> simp [c, c2]
theorem w_neInts (ha : SqT K H a (d.map V.int)) (hb : SqT K H b (e.map V.int)) (q : Q (.bl (!decide (d = e))) H) : rNeD K (.ref a) (.ref b) H Q :=
  ⟨_, _, .tup ha (dp_ints d), .tup hb (dp_ints e), ints_shaped d, ints_shaped e, by
    show Q (.bl (!PyData.eqvAll (d.map PyData.int) (e.map PyData.int))) H
    rw [ints_eqv]
    exact q⟩
theorem cut_mid (xs : List V) {i j : Nat} : cutV xs (some (i : Int)) (some (j : Int)) = (xs.drop i).take (j - i) := by
  unfold cutV
  rw [HT.sIx_nat, HT.sIx_nat]
  by_cases h : i ≤ xs.length
  · rw [Nat.min_eq_left h]
    by_cases h2 : j ≤ xs.length
    · rw [Nat.min_eq_left h2]
    · rw [Nat.min_eq_right (by omega), List.take_of_length_le (by rw [List.length_drop]; omega), List.take_of_length_le (by rw [List.length_drop]; omega)]
  · rw [Nat.min_eq_right (by omega : xs.length ≤ i), List.drop_eq_nil_of_le (Nat.le_refl _), List.drop_eq_nil_of_le (by omega), List.take_nil, List.take_nil]
theorem w_slMid {i j : Nat} (e : SqT K H a (d.map V.int)) (q : ∀ p H', Same H H' → SqT K H' p (((d.drop i).take (j - i)).map V.int) → Q (.ref p) H') : rSlA K (.ref a) (some (i : Int)) (some (j : Int)) H Q := by
  refine ⟨a, _, rfl, e, fun hw => ?_, fun _ p hp => ?_⟩
  · rw [HT.sIx_nat, HT.sIx_nat, List.length_map] at hw
    have : (d.drop i).take (j - i) = d := by
      by_cases c : d.length = 0
      · rw [List.eq_nil_of_length_eq_zero c]; simp
      · obtain rfl : i = 0 := by omega
        rw [List.drop_zero, List.take_of_length_le (by omega)]
    refine q a H (Same.refl H) ?_
    rw [this]
    exact e
  · refine q p _ (same_new hp _) (SqT.of ?_)
    rw [upd_same, cut_mid, List.map_take, List.map_drop]
def Tups (H : Hp) : List Addr → List (List Int) → Prop := Paired fun z p => H z = some (.tup (p.map V.int))
def TupsK (K : PySem.W.Frag) (H : Hp) : List Addr → List (List Int) → Prop := Paired fun z p => SqT K H z (p.map V.int)
theorem TupsK.sm {H H' : Hp} (s : Same H H') : ∀ {zs : List Addr} {ps : List (List Int)}, TupsK K H zs ps → TupsK K H' zs ps
  | _, _, .nil => .nil
  | _, _, .cons h r => .cons (sqT_same h s) (TupsK.sm s r)
/-- the object L alone is another list -/
theorem sqT_wr {H : Hp} {L a : Addr} {xs ys : List V} {o : HO} (h : SqT K H a xs) (hL : H L = some (.lst ys)) : SqT K (upd H L o) a xs := by
  rcases h with (h | ⟨u, h⟩) | h
  · exact .inl (.inl (by rw [upd_ne (fun z => by rw [z, hL] at h; cases h)]; exact h))
  · exact .inl (.inr ⟨u, by rw [upd_ne (fun z => by rw [z, hL] at h; cases h)]; exact h⟩)
  · exact .inr h
theorem TupsK.wr {H : Hp} {L : Addr} {ys : List V} {o : HO} (hL : H L = some (.lst ys)) : ∀ {zs : List Addr} {ps : List (List Int)}, TupsK K H zs ps → TupsK K (upd H L o) zs ps
  | _, _, .nil => .nil
  | _, _, .cons h r => .cons (sqT_wr h hL) (TupsK.wr hL r)
theorem map_get {α : Type} {f : α → V} {l : List α} {i : Nat} {x : V} (h : (l.map f)[i]? = some x) : ∃ b, l[i]? = some b ∧ x = f b := by
  rw [List.getElem?_map] at h
  cases e : l[i]? with
  | none => rw [e] at h; cases h
  | some b => rw [e] at h; exact ⟨b, rfl, (Option.some.inj h).symm⟩
theorem cut_drop {xs : List V} {n : Nat} : cutV xs (some (n : Int)) none = xs.drop n := by
  unfold cutV
  rw [HT.sIx_nat, HT.sIx_none]
  by_cases h : n ≤ xs.length
  · rw [Nat.min_eq_left h, List.take_of_length_le (by rw [List.length_drop]; omega)]
  · rw [Nat.min_eq_right (by omega), List.drop_eq_nil_of_le (Nat.le_refl _), List.drop_eq_nil_of_le (by omega)]
    exact List.take_nil
theorem w_slFrom {a : Addr} {d : List Int} {n : Nat} {H : Hp} {Q : VK} (e : SqT K H a (d.map V.int)) (q : ∀ p H', Same H H' → SqT K H' p ((d.drop n).map V.int) → Q (.ref p) H') : rSlA K (.ref a) (some (n : Int)) none H Q := by
  refine ⟨a, _, rfl, e, fun hw => ?_, fun _ p hp => ?_⟩
  · rw [HT.sIx_nat, List.length_map] at hw
    refine q a H (Same.refl H) ?_
    have : d.drop n = d := by
      by_cases c : d.length = 0
      · rw [List.eq_nil_of_length_eq_zero c]; simp
      · obtain rfl : n = 0 := by omega
        rfl
    rw [this]
    exact e
  · refine q p _ (same_new hp _) (SqT.of ?_)
    rw [upd_same, cut_drop, List.map_drop]
theorem tup_wr {H : Hp} {L a : Addr} {xs ys : List V} {o : HO} (h : H a = some (.tup xs)) (hL : H L = some (.lst ys)) : (upd H L o) a = some (.tup xs) := by
  rw [upd_ne (fun z => by rw [z, hL] at h; cases h)]
  exact h
theorem sum_eq (f s : Int) (hf : 0 ≤ f ∧ f < 65521) (hs : 0 ≤ s ∧ s < 65521) : fixedL (65536 * s + f) 4 = [(s * 65536 + f) / 16777216 % 256, (s * 65536 + f) / 65536 % 256, (s * 65536 + f) / 256 % 256, (s * 65536 + f) % 256] := by
  simp only [fixedL, List.nil_append, List.cons_append]
  congr 1
  · omega
  congr 1
  · omega
  congr 1
  · omega
  congr 1
  omega
theorem ck_take {d : List Int} {i : Nat} {b : Int} (h : d[i]? = some b) : ck (d.take (i + 1)) = ckStep (ck (d.take i)) b := by
  rw [List.take_add_one, h]
  simp [ck]
theorem ck_b (d : List Int) : (0 ≤ (ck d).1 ∧ (ck d).1 < 65521) ∧ 0 ≤ (ck d).2 ∧ (ck d).2 < 65521 := by
  rw [← List.reverse_reverse d]
  generalize d.reverse = e
  induction e with
  | nil => exact ⟨⟨by decide, by decide⟩, by decide, by decide⟩
  | cons b e ih =>
    rw [List.reverse_cons]
    have : ck (e.reverse ++ [b]) = ckStep (ck e.reverse) b := by simp [ck]
    rw [this]
    simp only [ckStep]
    omega
theorem len4 (n : Nat) (h : n ≤ 900) : fixedL (n : Int) 4 = [(n : Int) / 16777216, (n : Int) / 65536 % 256, (n : Int) / 256 % 256, (n : Int) % 256] := by
  simp only [fixedL, List.nil_append, List.cons_append]
  have h1 : (n : Int) / 256 / 256 / 256 % 256 = (n : Int) / 16777216 := by omega
  have h2 : (n : Int) / 256 / 256 % 256 = (n : Int) / 65536 % 256 := by omega
  rw [h1, h2]
theorem w_catInts {a b : Addr} {d e : List Int} {H : Hp} {Q : VK} (ha : SqT K H a (d.map V.int)) (hb : SqT K H b (e.map V.int)) (hl : d.length + e.length ≤ 2000) (q : ∀ p H', Same H H' → SqT K H' p ((d ++ e).map V.int) → Q (.ref p) H') : rCatA K (.ref a) (.ref b) H Q := by
  refine ⟨a, b, _, _, rfl, rfl, ha, hb, ?_, fun z => ?_, fun _ z => ?_, fun _ _ p hp => ?_⟩
  · rw [List.length_map, List.length_map]
    exact Nat.le_trans hl (by decide)
  · have := List.map_eq_nil_iff.mp z
    subst this
    exact q b H (Same.refl H) hb
  · have := List.map_eq_nil_iff.mp z
    subst this
    rw [List.append_nil] at q
    exact q a H (Same.refl H) ha
  · exact q p _ (same_new hp _) (SqT.of (by rw [upd_same, List.map_append]))
/-- a tuple of ints, new or not -/
def GivesS (K : PySem.W.Frag) (H : Hp) (Q : VK) (d : List Int) : Prop := ∀ p H', Same H H' → SqT K H' p (d.map V.int) → Q (.ref p) H'
def spSum (K : PySem.W.Frag) : Sp := fun vs H Q _ => ∃ (a : Addr) (d : List Int), vs = [.ref a] ∧ SqT K H a (d.map V.int) ∧ GivesT H Q (sum4 d)
theorem w_break {D : Ends} {σ : L2.St} {H : Hp} (h : D.bk σ H) : tBreak D σ H := h
theorem sums_eq (f s : Int) (hf : 0 ≤ f ∧ f < 65521) (hs : 0 ≤ s ∧ s < 65521) : fixedL (65536 * s + f) 4 = [s / 256, s % 256, f / 256, f % 256] := by
  simp only [fixedL, List.nil_append, List.cons_append]
  have h1 : (65536 * s + f) / 256 / 256 / 256 % 256 = s / 256 := by omega
  have h2 : (65536 * s + f) / 256 / 256 % 256 = s % 256 := by omega
  have h3 : (65536 * s + f) / 256 % 256 = f / 256 := by omega
  have h4 : (65536 * s + f) % 256 = f % 256 := by omega
  rw [h1, h2, h3, h4]
theorem w_par3 {i j l : Nat} {ta : TA} {D : Ends} {σ : L2.St} {H : Hp} (h : ta σ H fun vs H1 => ∃ u v w, vs = [u, v, w] ∧ D.nx (((σ.set i (some u)).set j (some v)).set l (some w)) H1) : tPar3 i j l ta D σ H := h
theorem w_ixZ {a : Addr} {d : List Int} {i : Nat} {b z : Int} {H : Hp} {Q : VK} (hS : SqT K H a (d.map V.int)) (hz : z = (i : Int)) (h : d[i]? = some b) (q : Q (.int b) H) : rIxT K (.ref a) (.int z) H Q := by
  subst hz
  exact w_ixT hS h q
theorem w_slZ {a : Addr} {d : List Int} {i j : Nat} {x y : Int} {H : Hp} {Q : VK} (e : SqT K H a (d.map V.int)) (hx : x = (i : Int)) (hy : y = (j : Int)) (q : ∀ p H', Same H H' → SqT K H' p (((d.drop i).take (j - i)).map V.int) → Q (.ref p) H') : rSlA K (.ref a) (some x) (some y) H Q := by
  subst hx hy
  exact w_slMid e q
theorem w_eqInts {a b : Addr} {d e : List Int} {H : Hp} {Q : VK} (ha : SqT K H a (d.map V.int)) (hb : SqT K H b (e.map V.int)) (q : Q (.bl (decide (d = e))) H) : rEqD K (.ref a) (.ref b) H Q :=
  ⟨_, _, .tup ha (dp_ints d), .tup hb (dp_ints e), ints_shaped d, ints_shaped e, by
    show Q (.bl (PyData.eqvAll (d.map PyData.int) (e.map PyData.int))) H
    rw [ints_eqv]
    exact q⟩
theorem w_catL {a b : Addr} {xs ys : List V} {H : Hp} {Q : VK} (ha : H a = some (.lst xs)) (hb : H b = some (.lst ys)) (hl : xs.length + ys.length ≤ 2000) (q : ∀ p, H p = none → Q (.ref p) (upd H p (.lst (xs ++ ys)))) : rCat (.ref a) (.ref b) H Q :=
  ⟨a, b, xs, ys, rfl, rfl, ha, hb, Nat.le_trans hl (by decide), q⟩
theorem in12 (b : Int) : inV (.int b) [.int 1, .int 2] = decide (b = 1 ∨ b = 2) := by
  by_cases c3 : b = 1
  · subst c3; rfl
  · by_cases c4 : b = 2
    · subst c4; rfl
    · rw [decide_eq_false (by omega)]
      show ((1 == b) || ((2 == b) || false)) = false
      rw [beq_eq_false_iff_ne.mpr (fun z => c3 z.symm), beq_eq_false_iff_ne.mpr (fun z => c4 z.symm)]
      rfl
/-- all objects but lists are kept -/
def Tk (H H' : Hp) : Prop := ∀ b u, H b = some u → (∀ zs, u ≠ .lst zs) → H' b = some u
theorem Tk.of {H H' : Hp} (s : Same H H') : Tk H H' := fun b u e _ => s b u e
theorem Tk.kp {d : Addr} {H H' : Hp} (k : Kp d H H') (h : Dice H d) : Tk H H' := fun b u e n => k b u (fun z => by
  obtain ⟨x, y, z', q⟩ := h
  rw [z, q] at e
  cases e
  exact n _ rfl) e
theorem Tk.wr {L : Addr} {H : Hp} {zs : List V} {o : HO} (h : H L = some (.lst zs)) : Tk H (upd H L o) := fun b u e n => by
  rw [upd_ne (fun z => by rw [z, h] at e; cases e; exact n _ rfl)]
  exact e
theorem Tk.trans {H H1 H2 : Hp} (a : Tk H H1) (b : Tk H1 H2) : Tk H H2 := fun c u e n => b c u (a c u e n) n
theorem sqT_tk {K : PySem.W.Frag} {H H' : Hp} {a : Addr} {xs : List V} (h : SqT K H a xs) (s : Tk H H') : SqT K H' a xs := by
  rcases h with (h | ⟨o, h⟩) | h
  · exact .inl (.inl (s _ _ h (fun zs e => by cases e)))
  · exact .inl (.inr ⟨o, s _ _ h (fun zs e => by cases e)⟩)
  · exact .inr h
theorem tup_tk {H H' : Hp} {a : Addr} {xs : List V} (h : H a = some (.tup xs)) (s : Tk H H') : H' a = some (.tup xs) := s _ _ h (fun zs e => by cases e)
theorem Kp.wr {d L : Addr} {H0 Hc : Hp} {o : HO} (k : Kp d H0 Hc) (h : H0 L = none) : Kp d H0 (upd Hc L o) := fun b u n e => by
  rw [upd_ne (ne_of_none e h)]
  exact k b u n e
theorem Dice.wr {d L : Addr} {Hc : Hp} {o : HO} (k : Dice Hc d) (h : L ≠ d) : Dice (upd Hc L o) d := by
  obtain ⟨a, b, c, e⟩ := k
  exact ⟨a, b, c, by rw [upd_ne h.symm]; exact e⟩
theorem Dice.sm {H H' : Hp} {d : Addr} (h : Dice H d) (s : Same H H') : Dice H' d := by
  obtain ⟨a, b, c, e⟩ := h
  exact ⟨a, b, c, s _ _ e⟩
theorem all_lay {ds : List PyData} (h : ∀ d ∈ ds, d.canLay0 = true) : PyData.canLayAll0 ds = true := by
  induction ds with
  | nil => rfl
  | cons d r ih => rw [PyData.canLayAll0, h d List.mem_cons_self, ih fun x hx => h x (List.mem_cons_of_mem _ hx)]; rfl
theorem all_depth {ds : List PyData} {k : Nat} (h : ∀ d ∈ ds, d.depth ≤ k) : PyData.depthAll ds ≤ k := by
  induction ds with
  | nil => simp [PyData.depthAll]
  | cons d r ih =>
    have h1 := h d List.mem_cons_self
    have h2 := ih fun x hx => h x (List.mem_cons_of_mem _ hx)
    rw [PyData.depthAll]
    omega
theorem all_eqv {ds : List PyData} (h : ∀ d ∈ ds, PyData.eqv d d = true) : PyData.eqvAll ds ds = true := by
  induction ds with
  | nil => rfl
  | cons d r ih => rw [PyData.eqvAll, h d List.mem_cons_self, ih fun x hx => h x (List.mem_cons_of_mem _ hx)]; rfl
/-- what may be compared with itself -/
def Fine (k : Nat) (d : PyData) : Prop := d.canLay0 = true ∧ d.depth ≤ k ∧ PyData.eqv d d = true
theorem Fine.int (n : Int) : Fine 0 (.int n) := ⟨rfl, by simp [PyData.depth], by simp [PyData.eqv]⟩
theorem Fine.le {j k : Nat} {d : PyData} (h : Fine j d) (hk : j ≤ k) : Fine k d := ⟨h.1, Nat.le_trans h.2.1 hk, h.2.2⟩
theorem Fine.tup {k : Nat} {ds : List PyData} (h : ∀ d ∈ ds, Fine k d) : Fine (k + 1) (.tuple ds) := by
  refine ⟨all_lay fun d hd => (h d hd).1, ?_, all_eqv fun d hd => (h d hd).2.2⟩
  have := all_depth fun d hd => (h d hd).2.1
  rw [PyData.depth]
  omega
theorem Fine.lst {k : Nat} {ds : List PyData} (h : ∀ d ∈ ds, Fine k d) : Fine (k + 1) (.list ds) := by
  refine ⟨all_lay fun d hd => (h d hd).1, ?_, all_eqv fun d hd => (h d hd).2.2⟩
  have := all_depth fun d hd => (h d hd).2.1
  rw [PyData.depth]
  omega
theorem Fine.shaped {k : Nat} {d : PyData} (h : Fine k d) (hk : k ≤ 64) : SeqAt.shaped d = true := by
  unfold SeqAt.shaped
  rw [Bool.and_eq_true]
  exact ⟨h.1, decide_eq_true (Nat.le_trans h.2.1 hk)⟩
theorem fine_ints (ns : List Int) : Fine 1 (.tuple (ns.map PyData.int)) := Fine.tup fun d hd => by
  obtain ⟨n, _, rfl⟩ := List.mem_map.mp hd
  exact Fine.int n
theorem byt_app {a b : List Int} (ha : Byt a) (hb : Byt b) : Byt (a ++ b) := fun x hx => (List.mem_append.mp hx).elim (ha x) (hb x)
theorem byt_take {a : List Int} (h : Byt a) (k : Nat) : Byt (a.take k) := fun b hb => h b (List.mem_of_mem_take hb)
theorem byt_cons {x : Int} {a : List Int} (hx : 0 ≤ x ∧ x < 256) (ha : Byt a) : Byt (x :: a) := fun b hb => by
  rcases List.mem_cons.mp hb with rfl | hb
  · exact hx
  · exact ha b hb
theorem flat_byt {α : Type} {f : α → List Int} : ∀ {l : List α}, (∀ x ∈ l, Byt (f x)) → Byt (l.flatMap f)
  | [], _ => fun b hb => by cases hb
  | x :: r, h => by
    rw [List.flatMap_cons]
    exact byt_app (h x List.mem_cons_self) (flat_byt fun y hy => h y (List.mem_cons_of_mem _ hy))
theorem w_iEnum {R : It → Hp → Prop} (h : ta σ H fun vs H1 => ∃ a xs, vs = [.ref a] ∧ SqL K H1 a xs ∧ R (Ite K a) H1) : iEnum K ta σ H R := h
/-- a comprehension over enumerate of a list -/
theorem w_lcEn {p : Addr} {xs : List V} {R : Addr → Hp → Prop} (hS : SqL K H p xs) (h : ∀ D, H D = none → ∃ Pv : Nat → Hp → Prop, Pv 0 (upd H D (.lst [])) ∧ (∀ i H2, i ≤ xs.length → Pv i H2 → SqL K H2 p xs) ∧
      (∀ (i : Nat) x T H2, xs[i]? = some x → Pv i H2 → H2 T = none → g (.ref T) (wipe σ vs) (upd H2 T (.tup [.int (i : Nat), x])) fun σ2 H2 => wipe σ2 vs = wipe σ vs ∧ tt σ2 H2 fun b H3 =>
        if b = true then te σ2 H3 fun y H4 => ∃ acc, H4 D = some (.lst acc) ∧ acc.length < sizeLine ∧ Pv (i + 1) (upd H4 D (.lst (acc ++ [y]))) else Pv (i + 1) H3) ∧ (∀ H2, Pv xs.length H2 → R D H2)) :
    ∃ a ys, [V.ref p] = [V.ref a] ∧ SqL K H a ys ∧ ∀ D, H D = none → ∃ W : Nat → Nat → Hp → Prop, (∃ m, W 0 m (upd H D (.lst []))) ∧ ∀ i m H, W i m H →
      ((Ite K a).stop i H ∧ R D H) ∨ ((Ite K a).go i H ∧ ∃ Nx : Hp → Prop, (∀ H', Nx H' → ∃ m', m' < m ∧ W (i + 1) m' H') ∧ ∀ x H', (Ite K a).yld i H x H' → g x (wipe σ vs) H' fun σ2 H2 => wipe σ2 vs = wipe σ vs ∧ tt σ2 H2 fun b H3 =>
        if b = true then te σ2 H3 fun y H4 => ∃ acc, H4 D = some (.lst acc) ∧ acc.length < sizeLine ∧ Nx (upd H4 D (.lst (acc ++ [y]))) else Nx H3) := by
  refine ⟨p, xs, rfl, hS, fun D hD => ?_⟩
  obtain ⟨Pv, h0, hl, hs, hd⟩ := h D hD
  refine ⟨fun i m H => m + i = xs.length ∧ Pv i H, ⟨xs.length, rfl, h0⟩, ?_⟩
  rintro i m H2 ⟨hm, p2⟩
  have q := hl i H2 (by omega) p2
  by_cases h1 : i < xs.length
  · refine .inr ⟨⟨xs, xs[i], q, List.getElem?_eq_getElem h1⟩, Pv (i + 1), fun H' p' => ⟨m - 1, by omega, by omega, p'⟩, ?_⟩
    rintro v H' ⟨T, x, rfl, hT, rfl, hx⟩
    exact hs i x T H2 (hx xs q) p2 hT
  · obtain rfl : i = xs.length := by omega
    exact .inl ⟨⟨xs, q, Nat.le_refl _⟩, hd H2 p2⟩
theorem cut_to10 (xs : List V) (n : Nat) : cutV xs none (some (n : Int)) = xs.take n := by
  unfold cutV
  rw [HT.sIx_nat, HT.sIx_none, List.drop_zero, Nat.sub_zero]
  by_cases h : n ≤ xs.length
  · rw [Nat.min_eq_left h]
  · rw [Nat.min_eq_right (by omega), List.take_length, List.take_of_length_le (by omega)]
theorem w_slTo {a : Addr} {d : List Int} {n : Nat} {H : Hp} {Q : VK} (e : SqT K H a (d.map V.int)) (q : ∀ p H', Same H H' → SqT K H' p ((d.take n).map V.int) → Q (.ref p) H') : rSlA K (.ref a) none (some (n : Int)) H Q := by
  refine ⟨a, _, rfl, e, fun hw => ?_, fun _ p hp => ?_⟩
  · rw [HT.sIx_nat, List.length_map] at hw
    have : d.take n = d := List.take_of_length_le (by omega)
    refine q a H (Same.refl H) ?_
    rw [this]
    exact e
  · refine q p _ (same_new hp _) (SqT.of ?_)
    rw [upd_same, cut_to10, List.map_take]
theorem Fine.str {x : Str} (h : PyData.strOk x = true) : Fine 0 (.str x) := ⟨by rw [PyData.canLay0]; exact h, by simp [PyData.depth], by simp [PyData.eqv]⟩
/-- two tuples of the same data -/
theorem w_neSame {a b : Addr} {xs ys : List V} {ds : List PyData} {k : Nat} (ha : SqT K H a xs) (hb : SqT K H b ys) (h1 : DpAll K H xs ds) (h2 : DpAll K H ys ds) (f : Fine k (.tuple ds)) (hk : k ≤ 64) (q : Q (.bl false) H) : rNeD K (.ref a) (.ref b) H Q :=
  ⟨_, _, .tup ha h1, .tup hb h2, f.shaped hk, f.shaped hk, by
    rw [f.2.2]
    exact q⟩
theorem w_eqSame {a b : Addr} {xs ys : List V} {ds : List PyData} {k : Nat} (ha : SqT K H a xs) (hb : SqT K H b ys) (h1 : DpAll K H xs ds) (h2 : DpAll K H ys ds) (f : Fine k (.tuple ds)) (hk : k ≤ 64) (q : Q (.bl true) H) : rEqD K (.ref a) (.ref b) H Q :=
  ⟨_, _, .tup ha h1, .tup hb h2, f.shaped hk, f.shaped hk, by
    rw [f.2.2]
    exact q⟩
theorem fine_pair {x : Str} {n : Int} (h : PyData.strOk x = true) : Fine 1 (.tuple [.str x, .int n]) := Fine.tup fun d hd => by
  rcases List.mem_cons.mp hd with rfl | hd
  · exact Fine.str h
  · rw [List.mem_singleton.mp hd]; exact Fine.int n
theorem passLam {A : Around} {outer : List Env} {s : Shared} {H : Hp} {E : XK} {scope : Scope} {f c' : Addr} : Passes (L2.CX (lamCx X A outer s H E scope f c').prog (lamCx X A outer s H E scope f c').w) (lamCx X A outer s H E scope f c') E := passes_call (takes_of rfl rfl rfl rfl) fun _ _ _ _ h => h
theorem op_neDK (K0 : PySem.W.Frag) (hK : X.K = K0) (hu : X.A.units + 64 < cLine) : OpR X (compareOp .NotEq) (rNeD K0) := by
  subst hK
  exact op_neD hu
theorem op_eqDK (K0 : PySem.W.Frag) (hK : X.K = K0) (hu : X.A.units + 64 < cLine) : OpR X (compareOp .Eq) (rEqD K0) := by
  subst hK
  exact op_eqD hu
theorem tabs_kp {T : List (Addr × Str)} {H H' : Hp} {d : Addr} (t : Tabs T H) (k : Kp d H H') (hd : Dice H d) : Tabs T H' := fun p hp => by
  obtain ⟨ps, h1, h2, h3⟩ := t p hp
  obtain ⟨x, y, z, e⟩ := hd
  refine ⟨ps, k _ _ (fun n => by rw [n, e] at h1; cases h1) h1, h2, fun pos cv hc => ?_⟩
  obtain ⟨c, e1, e2⟩ := h3 pos cv hc
  refine ⟨c, e1, k _ _ (fun n => ?_) e2⟩
  rw [n, e] at e2
  unfold CodeO at e2
  cases e2
theorem ne_dice {H : Hp} {L d : Addr} (h : H L = none) (k : Dice H d) : L ≠ d := fun z => by
  obtain ⟨a, b, c, e⟩ := k
  rw [z, e] at h
  cases h
theorem free_kp {d p : Addr} {H0 Hc : Hp} (k : Kp d H0 Hc) (hd : Dice Hc d) (hp : Hc p = none) : H0 p = none := (newl (o := .lst []) k hd hp rfl).2.2.2.2.1
theorem w_ifRest {c : TT} {a b : TS} {D : Ends} {σ : L2.St} {H : Hp} (I : L2.St → Hp → Prop) (h1 : ∀ N : L2.St → Hp → Prop, (∀ σ' H', I σ' H' → N σ' H') → tIfS c a b { D with nx := N } σ H) (h2 : ∀ σ' H', I σ' H' → D.nx σ' H') : tIfS c a b D σ H := h1 D.nx h2
theorem lst_kp {H H' : Hp} {L d : Addr} {o : HO} (k : Kp d H H') (h : H L = some o) (n : L ≠ d) : H' L = some o := k _ _ n h
theorem ext_lst {H H' : Hp} {L : Addr} {xs : List V} (x : ExtN H H') (h : H L = some (.lst xs)) : H' L = some (.lst xs) := x _ _ h fun q z => by cases z
theorem ext_tup {H H' : Hp} {L : Addr} {xs : List V} (x : ExtN H H') (h : H L = some (.tup xs)) : H' L = some (.tup xs) := x _ _ h fun q z => by cases z
theorem Tups.sm {H H' : Hp} (s : Same H H') : ∀ {zs : List Addr} {ps : List (List Int)}, Tups H zs ps → Tups H' zs ps
  | _, _, .nil => .nil
  | _, _, .cons h r => .cons (s _ _ h) (Tups.sm s r)
theorem Tups.ex {H H' : Hp} (s : ExtN H H') : ∀ {zs : List Addr} {ps : List (List Int)}, Tups H zs ps → Tups H' zs ps
  | _, _, .nil => .nil
  | _, _, .cons h r => .cons (ext_tup s h) (Tups.ex s r)
theorem w_lamT {cLF : Addr} {ret : Str} {tl : XK → Hp → VK → Prop} {H : Hp} {Q : VK} (h : tl (fun cls _ H' => ∃ b, PySem.W.exmOne K cls (.ref cLF) = some b ∧ (b = true → Q (.str ret) H') ∧ (b = false → False)) H Q) : TTold K cLF ret tl H Q := h
theorem sIx_neg {n k : Nat} {z : Int} (hz : z = -(k : Int)) (h0 : 0 < k) (h : k ≤ n) (d0 : Nat) : HT.sIx n d0 (some z) = n - k := by
  show (if z < 0 then (z + (n : Int)).toNat else min z.toNat n) = n - k
  rw [if_pos (by omega)]
  omega
theorem w_slToN {n : Nat} {z : Int} (hz : z = -(n : Int)) (h0 : 0 < n) (hn : n ≤ d.length) (e : SqT K H a (d.map V.int)) (q : ∀ p H', Same H H' → SqT K H' p ((d.take (d.length - n)).map V.int) → Q (.ref p) H') : rSlA K (.ref a) none (some z) H Q := by
  have hl : n ≤ (d.map V.int).length := by rw [List.length_map]; exact hn
  refine ⟨a, _, rfl, e, fun hw => ?_, fun _ p hp => ?_⟩
  · rw [sIx_neg hz h0 hl, List.length_map] at hw
    omega
  · refine q p _ (same_new hp _) (SqT.of ?_)
    rw [upd_same]
    unfold cutV
    rw [sIx_neg hz h0 hl, HT.sIx_none, List.drop_zero, Nat.sub_zero, List.map_take, List.length_map]
theorem w_slFromN {n : Nat} {z : Int} (hz : z = -(n : Int)) (h0 : 0 < n) (hn : n ≤ d.length) (e : SqT K H a (d.map V.int)) (q : ∀ p H', Same H H' → SqT K H' p ((d.drop (d.length - n)).map V.int) → Q (.ref p) H') : rSlA K (.ref a) (some z) none H Q := by
  have hl : n ≤ (d.map V.int).length := by rw [List.length_map]; exact hn
  refine ⟨a, _, rfl, e, fun hw => ?_, fun _ p hp => ?_⟩
  · rw [sIx_neg hz h0 hl, List.length_map] at hw
    have : d.drop (d.length - n) = d := by rw [show d.length - n = 0 by omega]; rfl
    refine q a H (Same.refl H) ?_
    rw [this]
    exact e
  · refine q p _ (same_new hp _) (SqT.of ?_)
    rw [upd_same]
    unfold cutV
    rw [sIx_neg hz h0 hl, HT.sIx_none, List.map_drop, List.length_map, List.take_of_length_le (by rw [List.length_drop, List.length_map]; omega)]
theorem tup_once (l : Addr) (items : Array Value) (n : Nat) (dd : Option Addr) (sl : Array (Option Value)) (u : Tok) :
    Meets (Builtin.«tuple.__mul__» ⟨[.ref l, .int 1 u], []⟩) (fun _ R s => s.heap.get? l = some { cls := .type "tuple", dict := dd, data := .seq items n, slots := sl } ∧ R (.ok (.ret (.ref l))) s) :=
  .of_wp fun prog w A R s h => by
    obtain ⟨hp, g, d, tk, os⟩ := s
    obtain ⟨hl, h⟩ := h
    have f1 := AutoSeq1.idx_int
    wp_walk using wpAny_loadPart' hl
    exact ⟨_, rfl, h⟩
theorem rep_one {α : Type} (x : α) (n : Nat) : (List.replicate n [x]).flatten = List.replicate n x := by
  induction n with
  | zero => rfl
  | succ n ih => rw [List.replicate_succ, List.flatten_cons, ih, List.replicate_succ]; rfl
/-- t * k, for k from 1 on: once is t itself -/
def rRepA (K : PySem.W.Frag) : R2 := fun x y H Q => ∃ l k xs, x = .ref l ∧ y = .int k ∧ SqT K H l xs ∧ xs ≠ [] ∧ 1 ≤ k ∧ k ≤ 1000 ∧ xs.length ≤ 1000 ∧ (k = 1 → Q (.ref l) H) ∧ (2 ≤ k → ∀ p, H p = none → Q (.ref p) (upd H p (.tup (List.replicate k.toNat xs).flatten)))
theorem op_repA : OpR X (binaryOp .Mult) (rRepA X.K) := by
  intro pins s σ H x y v u Q I rx ry h
  obtain ⟨l, k, xs, rfl, rfl, hT, hne, h1, h2, hz, q1, q2⟩ := h
  by_cases c : 2 ≤ k
  · exact op_repT pins s σ H _ _ v u Q I rx ry ⟨l, k, xs, rfl, rfl, hT, hne, c, h2, hz, q2 c⟩
  obtain rfl : k = 1 := by omega
  cases rx
  obtain ⟨t, rfl⟩ := ry
  obtain ⟨its, r, ⟨⟨cls, dd, data, sl⟩, ho, hc, n, hd⟩, hs⟩ := I.tuple hT
  simp only at hc hd
  subst hc hd
  refine wpAny_binaryOp_repeat_ref (T := "tuple") (U := "int") (by decide) ⟨_, ho, rfl⟩ (fun s' => typeIs_int s' 1 t) noFill_tuple_mul F.fills_int_mul F.slot_int_rmul repeat_tuple F.slot_int_index.lookup
    (call_meets F.slot_int_rmul (typeIs_int s 1 t) F.entry_int_rmul (F.args_int_rmul_2 _ _) (int_rmul_tuple 1 t l its.toArray n dd sl)
      ⟨ho, rfl, ⟨_, ho, rfl⟩, call_meets F.slot_tuple_mul ⟨_, ho, rfl⟩ F.entry_tuple_mul (F.args_tuple_mul_2 _ _) (tup_once l its.toArray n dd sl t) ⟨ho, ?_⟩⟩)
  exact ⟨.ref l, H, I, rfl, q1 rfl⟩
theorem op_repAK (K : PySem.W.Frag) (h : X.K = K) : OpR X (binaryOp .Mult) (rRepA K) := by subst h; exact op_repA
theorem w_repInts {z k : Int} (ha : SqT K H a [.int z]) (h1 : 1 ≤ k) (h2 : k ≤ 1000) (q : ∀ p H', Same H H' → SqT K H' p ((List.replicate k.toNat z).map V.int) → Q (.ref p) H') : rRepA K (.ref a) (.int k) H Q := by
  refine ⟨a, k, _, rfl, rfl, ha, List.cons_ne_nil _ _, h1, h2, (by show 1 ≤ 1000; decide), fun z => ?_, fun _ p hp => ?_⟩
  · subst z
    exact q a H (fun _ _ h => h) ha
  · refine q p _ (same_new hp _) (SqT.of ?_)
    rw [upd_same, rep_one, List.map_replicate]
theorem w_rU {f : Int → V} {i : Int} (q : Q (f i) H) : rU f (.int i) H Q := ⟨i, rfl, q⟩
theorem w_slToZ {n : Nat} {z : Int} (hz : z = (n : Int)) (e : SqT K H a (d.map V.int)) (q : ∀ p H', Same H H' → SqT K H' p ((d.take n).map V.int) → Q (.ref p) H') : rSlA K (.ref a) none (some z) H Q := by
  subst hz
  exact w_slTo e q
theorem w_slFromZ {n : Nat} {z : Int} (hz : z = (n : Int)) (e : SqT K H a (d.map V.int)) (q : ∀ p H', Same H H' → SqT K H' p ((d.drop n).map V.int) → Q (.ref p) H') : rSlA K (.ref a) (some z) none H Q := by
  subst hz
  exact w_slFrom e q
def spCk2 (K : PySem.W.Frag) : Sp := fun vs H Q _ => ∃ (a : Addr) (d : List Int), vs = [.ref a] ∧ (SqL K H a (d.map V.int) ∨ SqT K H a (d.map V.int)) ∧ GivesT H Q (sum4 d)
end
end Gk
end

section
-- part Fll
set_option Elab.async false
set_option linter.all false
set_option maxRecDepth 100000
set_option maxHeartbeats 2000000
/-! Fll: lambdas as values: made, held in a list, handed to a def that calls them -/
namespace LmV
open PySem PySem.Spec PyProof.Rows L2 LamX
structure LamK where
  params : Arguments
  body : Expr
  scope : Scope
  q : Str
  cl : List (Str × Addr)
  c : Addr
/-- at f: such a lambda -/
def LamO (f : Addr) (m : LamK) : HO := .ext fun h => ∃ pm ctv : Value, h.get? f = some (PySem.W.kla_obj "<lambda>" m.q m.params m.body m.scope m.cl pm m.c ctv)
theorem lamO_ne {f : Addr} {m : LamK} (ps : Array Value) : LamO f m ≠ .tbl ps := fun z => by
  unfold LamO at z
  cases z
section
variable {X : Cx} {pins : List (Addr × Obj)} {σ : L2.St} {H : Hp} {s : Shared}
theorem inv_lam {m : LamK} {t' : Nat} {pm ctv : Value} (I : Inv X pins σ H s) : Inv X pins σ (upd H s.heap.objs.size (LamO s.heap.objs.size m)) { s with heap := s.heap.push (PySem.W.kla_obj "<lambda>" m.q m.params m.body m.scope m.cl pm m.c ctv), toks := t' } := by
  refine I.laid (a := s.heap.objs.size) (fun b u e => Heap.get?_push_of_some _ e) (Nat.le_refl _) ?_
  have e : (s.heap.push (PySem.W.kla_obj "<lambda>" m.q m.params m.body m.scope m.cl pm m.c ctv)).get? s.heap.objs.size = some (PySem.W.kla_obj "<lambda>" m.q m.params m.body m.scope m.cl pm m.c ctv) := Heap.get?_push_size _ rfl
  exact ⟨⟨pm, ctv, e⟩, ⟨_, e⟩, fun h1 h2 ⟨p, t, z⟩ st => ⟨p, t, st _ z⟩⟩
/-- the lambda is made, and known from now on -/
theorem lam_make3 {T : List (Addr × Str)} {c P : Addr} {params : Arguments} {body : Expr} {scope : Scope} {pos : Pos} {E : Value → Shared → Prop} {Q : Value → Shared → Prop} (I : Inv X pins σ H s) (TB : TabB X.base X.mg c P) (hcode : X.env.code = .ref c)
    (hm : (P, X.env.qual ++ "<lambda>") ∈ T) (hu : ∀ p ∈ T, p.1 = P → p.2 = X.env.qual ++ "<lambda>") (hT : Tabs T H) (hdef : defaultsOf params X.env = ([], [])) (hfree : ∀ y ∈ scope.names, y.2 = .free → ∃ c, X.env.cells.lookup y.1 = some c)
    (h : ∀ (f c' : Addr) (H1 : Hp) (z : Shared), Inv X pins σ H1 z → ExtN H H1 → Tabs T H1 → H f = none → H1 f = some (LamO f ⟨params, body, scope, X.env.qual ++ "<lambda>", cloFrom X.env.cells scope.names [], c'⟩) → H1 c' = some (CodeO c' (X.env.qual ++ "<lambda>")) → Q (.ref f) z) :
    wpAny (model X.prog X.w) X.A (eval (.Lambda params body scope pos) X.env) Q E s := by
  obtain ⟨ps, hP, htr, hnm⟩ := hT _ hm
  refine PySem.W.kla_eval hdef ?_
  have hPs : s.heap.get? P = some { cls := .none, data := .fields ps } := I.hok P _ hP
  have bP : s.heap.BuiltinsAt X.mg P := TB.bm.keeps I.bk
  cases hc : codeAmong pos ps.toList with
  | none =>
    refine PySem.W.kla_makeFunction (mg := X.mg) (c := c) (P := P) (ps := ps) (closure_ok hfree) I.ok.glob (I.mod.glob.keeps I.bk) hcode (TB.code.keeps I.bk) hPs htr hc TB.gP bP fun c' ctv h' tk hx hge hlt hrec htb => ?_
    obtain ⟨c2, oc, vs, t, e2, hoc, hd, hv⟩ := hrec
    cases e2
    have nC : H c' = none := I.hok.fresh hge
    have I1 := inv_table (t' := tk) (more := #[rawInt pos.line, rawInt pos.col, .ref c']) (h' := h') I hP (fun b o hb e => hx b o hb e) htb hge ⟨oc, vs, t, hoc, hd, hv⟩
    have hE : ExtN H (upd (upd H P (.tbl (ps ++ #[rawInt pos.line, rawInt pos.col, .ref c']))) c' (CodeO c' (X.env.qual ++ "<lambda>"))) := fun b u e n => by
      rw [upd_ne (ne_of_none e nC), upd_ne (fun z => n ps (Option.some.inj (e.symm.trans (by rw [z]; exact hP))))]
      exact e
    have eL : (ps ++ #[rawInt pos.line, rawInt pos.col, .ref c']).toList = ps.toList ++ [rawInt pos.line, rawInt pos.col, .ref c'] := by simp
    have T1 : Tabs T (upd (upd H P (.tbl (ps ++ #[rawInt pos.line, rawInt pos.col, .ref c']))) c' (CodeO c' (X.env.qual ++ "<lambda>"))) := fun p hp => by
      by_cases hb : p.1 = P
      · rw [hu p hp hb, hb]
        refine ⟨_, by rw [upd_ne (ne_of_none hP nC), upd_same], by rw [eL]; exact PySem.TriplesOk_snoc _ _ _ _ htr, fun p' cv hcv => ?_⟩
        rw [eL] at hcv
        rcases among_app _ htr hcv with z | z
        · obtain ⟨c0, e1, e2⟩ := hnm p' cv z
          exact ⟨c0, e1, hE _ _ e2 codeO_ne⟩
        · exact ⟨c', z, upd_same⟩
      · obtain ⟨ps', a1, a2, a3⟩ := hT p hp
        refine ⟨ps', by rw [upd_ne (ne_of_none a1 nC), upd_ne hb]; exact a1, a2, fun p' cv hcv => ?_⟩
        obtain ⟨c0, e1, e2⟩ := a3 p' cv hcv
        exact ⟨c0, e1, hE _ _ e2 codeO_ne⟩
    have eC : upd (upd H P (.tbl (ps ++ #[rawInt pos.line, rawInt pos.col, .ref c']))) c' (CodeO c' (X.env.qual ++ "<lambda>")) c' = some (CodeO c' (X.env.qual ++ "<lambda>")) := upd_same
    generalize upd (upd H P (.tbl (ps ++ #[rawInt pos.line, rawInt pos.col, .ref c']))) c' (CodeO c' (X.env.qual ++ "<lambda>")) = HA at I1 hE T1 eC
    have nF : HA h'.objs.size = none := I1.hok.fresh (Nat.le_refl _)
    have I2 := inv_lam (m := ⟨params, body, scope, X.env.qual ++ "<lambda>", cloFrom X.env.cells scope.names [], c'⟩) (t' := tk) (pm := (X.mg "__name__").getD .none) (ctv := ctv) I1
    exact h h'.objs.size c' _ _ I2 (fun b o e n => (upd_ne (ne_of_none (hE b o e n) nF)).trans (hE b o e n)) (T1.ext fun b o e => (upd_ne (ne_of_none e nF)).trans e) (I.hok.fresh (Nat.le_trans hge (Nat.le_of_lt hlt))) upd_same ((upd_ne (ne_of_none eC nF)).trans eC)
  | some cv =>
    obtain ⟨c', e, hco⟩ := hnm pos cv hc
    subst e
    refine PySem.W.kla_makeFunctionHit (mg := X.mg) (c := c) (P := P) (ps := ps) (closure_ok hfree) I.ok.glob (I.mod.glob.keeps I.bk) hcode (TB.code.keeps I.bk) hPs htr hc bP fun ctv h' tk hx hsz => ?_
    have I1 : Inv X pins σ H { s with heap := h', toks := tk } := I.kept hx
    have nF : H h'.objs.size = none := I1.hok.fresh (Nat.le_refl _)
    have I2 := inv_lam (m := ⟨params, body, scope, X.env.qual ++ "<lambda>", cloFrom X.env.cells scope.names [], c'⟩) (t' := tk) (pm := (X.mg "__name__").getD .none) (ctv := ctv) I1
    exact h h'.objs.size c' _ _ I2 (fun b o e n => (upd_ne (ne_of_none e nF)).trans e) (hT.ext fun b o e => (upd_ne (ne_of_none e nF)).trans e) nF upd_same ((upd_ne (ne_of_none hco nF)).trans hco)
end
/-- what the lambda's body does -/
structure LamR (X : Cx) (params : Arguments) (body : Expr) (scope : Scope) (t : XK → TE) (k : Nat) : Prop where
  names : LamS X.env.scope scope
  bind : ∀ (q : Str) (cl : List (Str × Addr)) (pm cv ctv : Value), bindArgs (PySem.W.kla_fn "<lambda>" q params body scope cl pm cv ctv) ⟨[], []⟩ = pure []
  does : ∀ (A : Around) (outer : List Env) (s : Shared) (H : Hp) (E : XK) (f c' : Addr), Room k (A.deeper (lamEnv X scope s.heap.objs.size f c')) → PE (lamCx X A outer s H E scope f c') body (t E)
/-- at f: a lambda of the running def that does t -/
def LamV (X : Cx) (k : Nat) (H : Hp) (f : Addr) (t : XK → TE) : Prop := ∃ params body scope c', LamR X params body scope t k ∧
  H f = some (LamO f ⟨params, body, scope, X.env.qual ++ "<lambda>", cloFrom X.env.cells scope.names [], c'⟩) ∧ H c' = some (CodeO c' (X.env.qual ++ "<lambda>"))
theorem LamV.at_ {X : Cx} {k : Nat} {H H' : Hp} {f : Addr} {t : XK → TE} (v : LamV X k H f t) (e : ∀ b o, H b = some o → (∀ ps, o ≠ .tbl ps) → (∀ xs, o ≠ .lst xs) → (∀ xs, o ≠ .dK xs) → (∀ C dx fs, o ≠ .ins C dx fs) → H' b = some o) : LamV X k H' f t := by
  obtain ⟨params, body, scope, c', h1, h2, h3⟩ := v
  exact ⟨params, body, scope, c', h1, e _ _ h2 lamO_ne (fun _ z => by unfold LamO at z; cases z) (fun _ z => by unfold LamO at z; cases z) (fun _ _ _ z => by unfold LamO at z; cases z),
    e _ _ h3 codeO_ne (fun _ z => by unfold CodeO at z; cases z) (fun _ z => by unfold CodeO at z; cases z) (fun _ _ _ z => by unfold CodeO at z; cases z)⟩
theorem LamV.ex {X : Cx} {k : Nat} {H H' : Hp} {f : Addr} {t : XK → TE} (v : LamV X k H f t) (e : ExtN H H') : LamV X k H' f t := v.at_ fun b o h n _ _ _ => e b o h n
def tLamV (X : Cx) (k : Nat) (T : List (Addr × Str)) (t : XK → TE) : TE := fun σ H Q => Tabs T H ∧ ∀ (f : Addr) (H1 : Hp), ExtN H H1 → Tabs T H1 → H f = none → LamV X k H1 f t → Q (.ref f) H1
section
variable {X : Cx}
/-- lambda: body -/
theorem pe_lamV {T : List (Addr × Str)} {c P : Addr} {k : Nat} {params : Arguments} {body : Expr} {scope : Scope} {t : XK → TE} {lpos : Pos} (TB : TabB X.base X.mg c P) (hcode : X.env.code = .ref c) (hm : (P, X.env.qual ++ "<lambda>") ∈ T) (hu : ∀ p ∈ T, p.1 = P → p.2 = X.env.qual ++ "<lambda>")
    (sc : Scope) (hsc : X.env.scope = sc) (L : lamSB sc scope = true) (hdef : defaultsOf params X.env = ([], [])) (hbind : ∀ (q : Str) (cl : List (Str × Addr)) (pm cv ctv : Value), bindArgs (PySem.W.kla_fn "<lambda>" q params body scope cl pm cv ctv) ⟨[], []⟩ = pure [])
    (hbody : ∀ (A : Around) (outer : List Env) (s : Shared) (H : Hp) (E : XK) (f c' : Addr), Room k (A.deeper (lamEnv X scope s.heap.objs.size f c')) → PE (lamCx X A outer s H E scope f c') body (t E)) :
    PE X (.Lambda params body scope lpos) (tLamV X k T t) := by
  refine ⟨fun pins s σ H Q I h => ?_⟩
  obtain ⟨hT, h⟩ := h
  have LS : LamS X.env.scope scope := hsc ▸ lamS_by L
  refine lam_make3 I TB hcode hm hu hT hdef (LS.has I.ok) fun f c' H1 z I1 eN T1 nf hf hc => ?_
  exact ⟨.ref f, H1, I1, rfl, h f H1 eN T1 nf ⟨params, body, scope, c', ⟨LS, hbind, hbody⟩, hf, hc⟩⟩
section
variable {pins : List (Addr × Obj)} {σ : L2.St} {H : Hp} {s : Shared}
/-- x(), in the def that got such a lambda -/
theorem pe_act3 {CXg : CXT} {Eg : XK} {Ng : List Str} {qg : Str} {sg : Scope} {g f c' : Addr} {cdg : Value} {params : Arguments} {body : Expr} {scope : Scope} {k i : Nat} {a : Str} {pn : List (Addr × Obj)} {xe : Value → Shared → Prop} {W : WX} {E : XK} {t : XK → TE} {p1 p2 : Pos}
    (I : Inv X pins σ H s) (R : LamR X params body scope t k)
    (tk : Takes ((cxOf CXg X.prog X.w X.K X.mg X.base Ng qg sg g cdg X.A X.stack s H Eg).tr pn xe) W) (hW : ∀ cls d σ' H', E cls d H' → W cls d σ' H') (hr : Room (k + 1) (X.A.deeper (envOfC qg sg s.heap.objs.size g cdg)))
    (hN : Ng[i]? = some a) (hv : Vis sg a) (hd : (a == ("__debug__" : Str)) = false := by decide) (hcd : (a == ("__classdict__" : Str)) = false := by decide) :
    PE ((cxOf CXg X.prog X.w X.K X.mg X.base Ng qg sg g cdg X.A X.stack s H Eg).tr pn xe) (.Call (.Name a p1) [] [] p2)
      (fun σZ HZ Q => σZ[i]? = some (some (.ref f)) ∧ HZ c' = some (CodeO c' (X.env.qual ++ "<lambda>")) ∧ HZ f = some (LamO f ⟨params, body, scope, X.env.qual ++ "<lambda>", cloFrom X.env.cells scope.names [], c'⟩) ∧ t E σ HZ Q) := by
  refine ⟨fun pinsZ sZ σZ HZ Q IZ h => ?_⟩
  obtain ⟨hs, hc, hf, ht⟩ := h
  refine wpAny_Call_Name_kw (thn ((pe_var (pos := p1) (i := i) hN hv hd hcd).run pinsZ sZ σZ HZ (fun v H1 => v = .ref f ∧ H1 = HZ) IZ ⟨.ref f, hs, rfl, rfl⟩) fun u s1 ⟨v, H1, I1, r1, ev, eH⟩ => ?_)
  subst ev
  rw [eH] at I1
  obtain rfl : u = Value.ref f := r1
  obtain ⟨⟨pm, ctv, of1⟩, _, _⟩ := I1.hok f _ hf
  refine PySem.W.callWith_F0 ⟨_, _, _, _, of1⟩ ?_
  have un : Un (frs X.stack) [] H HZ s.heap s1.heap := I1.base
  obtain ⟨⟨oc, vs, tt, hoc, hdc, hvc⟩, _, _⟩ := I1.hok c' _ hc
  have rc : codeAny (model X.prog X.w) (X.A.deeper (envOfC qg sg s.heap.objs.size g cdg)) (.call (.ref f) ⟨[], []⟩) (CR (L2.CX X.prog X.w) (envOfC qg sg s.heap.objs.size g cdg :: X.stack) X.prog X.w HZ s1 Q E) s1 := by
    refine PySem.W.kla_callFunE hr.depth of1 rfl R.names.co R.names.gen rfl ⟨c', oc, vs, tt, rfl, hoc, hdc, hvc⟩ ?_
    rw [R.bind]
    refine wpAny_pure (wpAny_newFunctionEnv (fun y hy => (R.names.own y hy).2) (fun y hy => absurd hy (by simp)) (fun h₁ hns hsb => ⟨I1.nolimit.fresh _ hsb, ?_⟩) R.names.kind)
    show codeAny _ _ (.expr body (lamEnv X scope s1.heap.objs.size f c')) _ _
    have kp : ∀ b o, s1.heap.get? b = some o → h₁.get? b = some o := fun b o e => hsb.extBut b o (Nat.ne_of_lt (Heap.lt_size e)) (Heap.get?_push_of_some _ e)
    have J : Inv (lamCx X (X.A.deeper (envOfC qg sg s.heap.objs.size g cdg)) (envOfC qg sg s.heap.objs.size g cdg :: X.stack) s1 HZ E scope f c') [] σ HZ { s1 with heap := h₁, toks := s1.toks + ([] : List (Str × Value)).length } := lam_start2 I R.names I1.env0 hr.hd un hns kp
    refine PySem.W.kla_codeExpr (wpAny_mono ((R.does _ _ s1 HZ E f c' (hr.deeper _)).run [] _ _ HZ Q J ht) (fun v z ⟨w', H', J', rv, q⟩ => ⟨w', H', J'.os, J'.bare, J'.base, J'.hok, rv, q⟩) fun e z hq => hq)
  have hx : Passes (L2.CX X.prog X.w) ((cxOf CXg X.prog X.w X.K X.mg X.base Ng qg sg g cdg X.A X.stack s H Eg).tr pn xe) E := passes_call tk hW
  refine wpAny_call (codeAny_mono rc fun r z hq => ?_)
  cases r with
  | error e => exact hx pinsZ σZ HZ s1 e z I1 hq
  | ok fl =>
    cases fl with
    | ret u => exact I1.after hq
    | next => exact False.elim hq
    | brk => exact False.elim hq
    | cont => exact False.elim hq
end
/-- told(e), e such a lambda -/
def tToldV (X : Cx) (k : Nat) (CS : Addr) (ret : Str) (te : TE) : TE := fun σ H Q => te σ H fun v H1 => ∃ f t, [v] = [V.ref f] ∧ LamV X k H1 f t ∧ TTold X.K CS ret (fun E H' Q' => t E σ H' Q') H1 Q
theorem pe_toldV {x a e e2 ret : Str} {te : TE} {ex : Expr} {g CS : Addr} {k j : Nat} {pg : Arguments} {sg : Scope} {dV kV doc pm cdv ct oc : Value} {an od : Option Addr} {osl : Array (Option Value)} {Ng : List Str} {p pos p1 p2 p3 p4 p5 p6 p7 p8 : Pos}
    (hg : Gl X x) (hm : X.mg x = some (.ref g)) (hk : PySem.W.keepIn X.K (.ref g) = true) (he : PE X ex te)
    (lk : X.K.lookup g = some ⟨oc, od, .func (PySem.W.fnOf x x pg [.Try [.Return (some (.Call (.Name a p1) [] [] p2)) p3] [.ExceptHandler (some (.Name e p4)) none [.Return (some (.Constant (.str ret) j p5)) p6] p7] [] [] p8] sg dV kV doc pm an cdv ct), osl⟩) (hcg : PySem.W.codeIn X.K cdv x = true)
    (hb : L2.Binds X.K (PySem.W.fnOf x x pg [.Try [.Return (some (.Call (.Name a p1) [] [] p2)) p3] [.ExceptHandler (some (.Name e p4)) none [.Return (some (.Constant (.str ret) j p5)) p6] p7] [] [] p8] sg dV kV doc pm an cdv ct) [a] []) (Sg : FnScope Ng [a] sg) (hNg : Ng[0]? = some a) (hva : Vis sg a) (hr : Room (k + 2) X.A)
    (hge : sg.names.lookup e = some .globalImplicit) (hme : X.mg e = some (.ref CS)) (hde : (e == ("__debug__" : Str)) = false) (h0 : ∀ f : Addr, (L2.start Ng [V.ref f])[0]? = some (some (V.ref f)))
    (hdb : (x == ("__debug__" : Str)) = false := by decide) (hd : (a == ("__debug__" : Str)) = false := by decide) (hcd : (a == ("__classdict__" : Str)) = false := by decide)
    (hst : starEach [ex] X.env = (false, eval ex X.env) :: starEach [] X.env := by rfl) (hpl : (backTo pos (starEach [] X.env)).any (·.1) = false := by rfl) :
    PE X (.Call (.Name x p) [ex] [] pos) (tToldV X k CS ret te) := by
  refine ⟨fun pins s σ H Q I h => ?_⟩
  have args : PA X [ex] (tCons te tNil) := pa_cons he pa_nil hst
  refine wpAny_Call_Name_kw (ld_glob I hg hm (PySem.W.callWith_K (h₀ := X.base) I.ok.mod.kin hk (thn (args.run pos pins s σ H (fun vs H1 => ∃ f t, vs = [V.ref f] ∧ LamV X k H1 f t ∧ TTold X.K CS ret (fun E H' Q' => t E σ H' Q') H1 Q) I h) ?_) hst hpl) hdb)
  rintro us z ⟨vs, H1, I1, rv, f, t, rfl, ⟨params, body, scope, c', R, hf, hc⟩, q⟩
  refine ⟨I1.kIn, ?_⟩
  rw [Vals.ref1 rv]
  have rc : codeAny (model X.prog X.w) X.A (.call (.ref g) ⟨[.ref f], []⟩) (CR C8.CX0 X.stack X.prog X.w H1 z Q C8.E0) z := by
    refine run_ofS (N := Ng) (ps := [a]) (us := [.ref f]) (vs := [.ref f]) lk hcg Sg hr I1.env0 (hb z [.ref f] I1.kIn rfl) (.cons rfl .nil) rfl fun hr' => ?_
    have G := told_gives (X := X) (Ng := Ng) (x := x) (a := a) (e := e) (q := X.env.qual ++ "<lambda>") (ret := ret) (sg := sg) (g := g) (CS := CS) (cdg := cdv) (j := j) (p1 := p1) (p2 := p2) (p3 := p3) (p4 := p4) (p5 := p5) (p6 := p6) (p7 := p7) (p8 := p8) hge hme hde h0
    obtain ⟨t', ht', hq'⟩ := G f c' z H1 Q (fun E H' Q' => H' f = some (LamO f ⟨params, body, scope, X.env.qual ++ "<lambda>", cloFrom X.env.cells scope.names [], c'⟩) ∧ t E σ H' Q')
      (fun W pn xe E p1 p2 tk hW => pe_act3 (i := 0) I1 R tk hW hr' hNg hva hd hcd) hc ⟨hf, q⟩
    exact ⟨t', ht'.nox, hq'⟩
  refine wpAny_call (codeAny_mono rc fun r s2 hq => ?_)
  cases r with
  | error e => exact (show False from hq).elim
  | ok fl =>
    cases fl with
    | ret u => exact I1.after hq
    | next => exact False.elim hq
    | brk => exact False.elim hq
    | cont => exact False.elim hq
end
end LmV
end

section
-- part Dq
set_option Elab.async false
set_option linter.all false
set_option maxRecDepth 100000
set_option maxHeartbeats 2000000
/-! Dq: classes with defaults; dicts: copied, compared, walked; heaps of which some objects are foreign -/
namespace Dq
open PySem PySem.Spec PyProof.Rows L2 Fw Gk
/-! ### a class made by its name, defaults behind -/
structure Mcd (P : Program) (w : World) (K : PySem.W.Frag) (mg : Str → Option Value) (base : Heap) (k : Nat) (x : Str) (C : Addr) (sp : Sp) (dvs : List V) : Prop where
  ex : ∃ (f : Addr) (fd : FuncData) (ps : List Str) (ds : List Value), Mk K C f ∧ FnOk P w K mg base (L2.CX P w) k f fd ps sp ∧ mg x = some (.ref C) ∧ Binds K fd ps ds ∧ Vals dvs ds
def tMkD (C : Addr) (sp : Sp) (dvs : List V) (E : XK) (t : TA) : TE := fun σ H Q => t σ H fun vs H1 => ∀ x dx, H1 x = none → H1 dx = none → dx ≠ x → sp (.ref x :: (vs ++ dvs)) (upd (upd H1 dx (.own x)) x (.ins C dx [])) (fun v H2 => v = .non ∧ Q (.ref x) H2) E
section
variable {X : Cx} {k j : Nat} {C : Addr} {x : Str} {sp : Sp} {dvs : List V} {E : XK} {p pos : Pos} {e : Expr} {es : List Expr} {t : TA}
theorem pe_mcd (c : Mcd X.prog X.w X.K X.mg X.base k x C sp dvs) (hr : Room j X.A) (hk : k + 1 ≤ j) (hg : Gl X x) (hx : Passes (L2.CX X.prog X.w) X E) (ha : PA X (e :: es) t)
    (hdb : (x == ("__debug__" : Str)) = false := by decide) (he : starEach (e :: es) X.env = (false, eval e X.env) :: starEach es X.env := by rfl) (hpl : (backTo pos (starEach es X.env)).any (·.1) = false := by rfl) :
    PE X (.Call (.Name x p) (e :: es) [] pos) (tMkD C sp dvs E t) := by
  obtain ⟨f, fd, ps, ds, M, F, hm, b, d⟩ := c.ex
  exact ⟨fun pins s σ H Q I h => (pe_make M F (hr.mono hk) hg hm b d hx ha hdb he hpl).run pins s σ H Q I h⟩
theorem w_mkd {σ : L2.St} {H : Hp} {Q : VK} (h : t σ H fun vs H1 => ∀ x dx, H1 x = none → H1 dx = none → dx ≠ x → sp (.ref x :: (vs ++ dvs)) (upd (upd H1 dx (.own x)) x (.ins C dx [])) (fun v H2 => v = .non ∧ Q (.ref x) H2) E) : tMkD C sp dvs E t σ H Q := h
end
section
variable {P : Program} {w : World} {K : PySem.W.Frag} {mg : Str → Option Value} {base : Heap} {x qual : Str} {st : Stmt} {C : Addr} {dvs : List V}
/-- n values are given (self counted), the defaults behind the first j fill up -/
theorem mcd_mk {N ps : List Str} {k : Nat} {sp : Sp} (n j : Nat) (F : ∃ (f : Addr) (fd : FuncData), FunD K "__init__" qual (defArgs st) (defBody st) (defScope st) dvs [] f fd ∧ Mk K C f) (hm : mg x = some (.ref C)) (S : FnScope N ps (defScope st)) (hd : dvs ≠ []) (hn : n + (dvs.length - j) = ps.length)
    (b : ∀ (T : Addr) (kV doc pm : Value) (an : Option Addr) (cdv ct : Value) (us its : List Value), us.length = n → its.length = dvs.length →
      ∃ k, bindArgs (PySem.W.fnOf "__init__" qual (defArgs st) (defBody st) (defScope st) (.ref T) kV doc pm an cdv ct) ⟨us, []⟩ = seqItems? (.ref T) >>= k ∧ k (some its.toArray) = pure (ps.zip (us ++ its.drop j)))
    (len : ∀ vs H Q E, sp vs H Q E → vs.length = ps.length)
    (hbody : ∀ (f : Addr) (cdv : Value) (A : Around) (outer : List Env) (s : Shared) (H : Hp) (vs : List V) (Q : VK) (E : XK), Room k (A.deeper (envOfC qual (defScope st) s.heap.objs.size f cdv)) → sp vs H Q E →
      ∃ t, PSs (cxOf (L2.CX P w) P w K mg base N qual (defScope st) f cdv A outer s H E) (defBody st) t ∧ t { nx := fun _ H' => Q .non H', rt := Q } (start N vs) H) : Mcd P w K mg base (k + 1) x C sp (dvs.drop j) := by
  obtain ⟨f, fd, F, M⟩ := F
  obtain ⟨ds, h1, h2⟩ := F.binds1 n j hd hn b
  exact ⟨f, fd, ps, ds, M, F.ok S len (hbody f), hm, h2, h1⟩
end
/-! ### dict(d) -/
section
variable {X : Cx}
def rCopy : List V → Hp → VK → Prop := fun xs H Q => ∃ (a : Addr) (kvs : List (Key × V)), xs = [.ref a] ∧ Rd H a (.dK kvs) ∧ ∀ p, H p = none → Q (.ref p) (upd H p (.dK kvs))
theorem call_dictC : CallR X (.type "dict") rCopy := by
  intro pins s σ H xs us Q I r q
  obtain ⟨a, kvs, ex, hq, q⟩ := q
  subst ex
  obtain ⟨u, eu, rx⟩ := vals1 r
  subst eu
  cases rx
  exact d_copyOf I hq fun p s' hp I' => ⟨.ref p, _, I', rfl, q p hp⟩
/-! ### dicts compared whose values are tuples of ints -/
def BlkEq (K : PySem.W.Frag) (H : Hp) (x y : V) : Prop := ∃ (a b : Addr) (d : List Int), x = .ref a ∧ y = .ref b ∧ SqT K H a (d.map V.int) ∧ SqT K H b (d.map V.int)
theorem hits_blk {pins : List (Addr × Obj)} {σ : L2.St} {H : Hp} {s : Shared} (I : Inv X pins σ H s) {A : Around} (hu : A.units + 1 < cLine) {ls : List (Key × V)} {vb : List (Key × Value)} (rb : KV ls vb) {ks : List (Key × V)} {va : List (Key × Value)} (ra : KV ks va) :
    (∀ p ∈ ks, ∃ u, valV ls p.1 = some u ∧ BlkEq X.K H p.2 u) → PySem.W.KeqHits A s vb va true := by
  unfold KV at ra
  induction ra with
  | nil => intro _; exact .nil
  | @cons p q ps qs h t ih =>
    intro hp
    obtain ⟨h1, h2⟩ := h
    obtain ⟨u, e, a, b, d, e1, e2, sa, sb⟩ := hp p List.mem_cons_self
    have rr : RelO (some u) (valueAt vb p.1) := by rw [← e]; exact rb.val p.1
    obtain ⟨y, hy, ry⟩ := rr.some_of
    obtain ⟨key, v⟩ := q
    have h1' : p.1 = key := h1
    rw [h1'] at hy
    show PySem.W.KeqHits A s vb ((key, v) :: qs) (true && true)
    subst e2
    have h2' : RelV p.2 v := h2
    rw [e1] at h2'
    obtain ⟨as, r1⟩ := Dp.reads I _ _ _ (Dp.tup sa (dp_ints d)) h2'
    obtain ⟨bs, r2⟩ := Dp.reads I _ _ _ (Dp.tup sb (dp_ints d)) ry
    have f := fine_ints d
    have dep : (PyData.tuple (d.map PyData.int)).depth ≤ 1 := f.2.1
    have k := SeqAt.eqAt_reads _ _ A s v y as bs r1 r2 f.1 f.1 (by omega)
    rw [f.2.2] at k
    exact .hit hy k (ih fun p' hm => hp p' (List.mem_cons_of_mem _ hm))
def rNeDV (K : PySem.W.Frag) : R2 := fun x y H Q => ∃ a b ks ls, x = .ref a ∧ y = .ref b ∧ H a = some (.dK ks) ∧ H b = some (.dK ls) ∧ ks.length = ls.length ∧ (∀ p ∈ ks, ∃ u, valV ls p.1 = some u ∧ BlkEq K H p.2 u) ∧ Q (.bl false) H
theorem op_ne_dictV (hu : X.A.units + 64 < cLine) : OpR X (compareOp .NotEq) (rNeDV X.K) := by
  intro pins s σ H x y v u Q I rx ry h
  obtain ⟨a, b, ks, ls, rfl, rfl, ea, eb, hlen, hp, q⟩ := h
  obtain rfl : v = Value.ref a := rx
  obtain rfl : u = Value.ref b := ry
  obtain ⟨_, ya, va, ra, da⟩ := (show ObjOk X.prog X.w H s.heap a (.dK ks) from I.hok a _ ea)
  obtain ⟨_, yb, vb, rb, db⟩ := (show ObjOk X.prog X.w H s.heap b (.dK ls) from I.hok b _ eb)
  have hl : va.length = vb.length := by rw [← ra.length, ← rb.length]; exact hlen
  exact PySem.W.keq_ne (knd := mixKind X.prog X.w) (r := true) ya yb da db (by omega) (fun _ => hits_blk I (A := X.A.in1) (by show X.A.units + 1 + 1 < cLine; omega) rb ra hp) (fin_bl I q (by simp [hl]))
end
/-! ### steps of the walk -/
section
variable {X : Cx} {K : PySem.W.Frag} {σ : L2.St} {H : Hp} {Q : VK} {td ty tx tv tk : TE} {tt : TT} {g : TG} {vs : List Nat} {D : Ends}
theorem w_dget (h : td σ H fun x H1 => ty σ H1 fun y H2 => ∃ a v, x = .ref a ∧ DGet H2 a y (some v) ∧ Q v H2) : tDGet td ty σ H Q := h
theorem w_din (h : ty σ H fun y H1 => td σ H1 fun x H2 => ∃ a o, x = .ref a ∧ DGet H2 a y o ∧ Q (.bl o.isSome) H2) : tDIn ty td σ H Q := h
theorem w_dnotin (h : ty σ H fun y H1 => td σ H1 fun x H2 => ∃ a o, x = .ref a ∧ DGet H2 a y o ∧ Q (.bl (!o.isSome)) H2) : tDNotIn ty td σ H Q := h
theorem w_dget2 (h : td σ H fun x H1 => ∃ a, x = .ref a ∧ IsD H1 a ∧ ty σ H1 fun y H2 => tx σ H2 fun z H3 => ∃ o, DGet H3 a y o ∧ Q (o.getD z) H3) : tDGet2 td ty tx σ H Q := h
theorem w_dnew (h : ∀ p, H p = none → Q (.ref p) (upd H p (.dK []))) : tDNewK σ H Q := h
theorem w_fldaug {ta : TE} {rd : V → V → Hp → VK → Prop} {f : Str} (h : ta σ H fun x H1 => ∃ a C dx fs v, x = .ref a ∧ H1 a = some (.ins C dx fs) ∧ Cls K C ∧ NoAttr K C f ∧ fs.lookup f = some v ∧
  tv σ H1 fun y H2 => rd v y H2 fun z H3 => ∃ dx' fs', H3 a = some (.ins C dx' fs') ∧ fs'.length < 1000 ∧ D.nx σ (upd H3 a (.ins C dx' (putF f z fs')))) : sFldAug K ta tv rd f D σ H := h
/-- {k: v for k in d} -/
theorem w_dcK {i : Nat} {d : Addr} {kvs : List (Key × V)} (hv : σ[i]? = some (some (.ref d))) (hd : H d = some (.dK kvs)) (h : ∀ o D, upd H d (.frz o (.dK kvs)) D = none → ∃ Pv : Nat → Hp → Prop, Pv 0 (upd (upd H d (.frz o (.dK kvs))) D (.dK [])) ∧ (∀ i H, i ≤ kvs.length → Pv i H → H d = some (.frz o (.dK kvs))) ∧
      (∀ i k v H, kvs[i]? = some (k, v) → Pv i H → g (kV k) (wipe σ vs) H fun σ2 H2 => wipe σ2 vs = wipe σ vs ∧ tt σ2 H2 fun b H3 =>
        if b = true then tk σ2 H3 fun y H4 => tv σ2 H4 fun z H5 => ∃ kvs k, y = kV k ∧ H5 D = some (.dK kvs) ∧ kvs.length < sizeLine ∧ Pv (i + 1) (upd H5 D (.dK (putK kvs k z))) else Pv (i + 1) H3) ∧
      (∀ H, Pv kvs.length H → Q (.ref D) (upd H d (.dK kvs)))) : tLockE (tDc (iKeys (tVar i)) g tt tk tv vs) σ H Q := by
  refine ⟨d, .dK kvs, hd, trivial, fun o => ?_⟩
  refine ⟨.ref d, hv, d, o, rfl, .inl ⟨kvs, upd_same, fun D hD => ?_⟩⟩
  obtain ⟨Pv, h0, hl, hs, hq⟩ := h o D hD
  refine ⟨fun i m H => m = kvs.length - i ∧ i ≤ kvs.length ∧ Pv i H, ⟨kvs.length, by simp, Nat.zero_le _, h0⟩, ?_⟩
  rintro i m H ⟨rfl, hi, p⟩
  have q := hl i H hi p
  by_cases hlt : i < kvs.length
  · refine .inr ⟨walk_keys.goes i H hlt q, Pv (i + 1), fun H' p' => ⟨kvs.length - (i + 1), by omega, rfl, hlt, p'⟩, fun x H' y => ?_⟩
    obtain ⟨rfl, k, v, e, rfl⟩ := walk_keys.yields i H x H' hlt q y
    exact hs i k v _ e p
  · have e : i = kvs.length := by omega
    subst e
    exact .inl ⟨walk_keys.stops H q, q, hq H p⟩
end
section
variable {K : PySem.W.Frag} {σ : L2.St} {H : Hp}
theorem for_enumL {g : TG} {tb : TS} {D : Ends} {a : Addr} {xs : List V} (Pv : Nat → L2.St → Hp → Prop) (h0 : Pv 0 σ H) (hq : ∀ i σ H, Pv i σ H → SqL K H a xs)
    (hs : ∀ (i : Nat) (x : V) (T : Addr) (σ : L2.St) (H : Hp), xs[i]? = some x → Pv i σ H → H T = none → g (.ref T) σ (upd H T (.tup [.int (i : Nat), x])) fun σ2 H2 => tb { D with nx := Pv (i + 1), ct := Pv (i + 1), bk := D.nx } σ2 H2)
    (hd : ∀ σ H, Pv xs.length σ H → D.nx σ H) :
    ∃ W : Nat → Nat → L2.St → Hp → Prop, (∃ m, W 0 m σ H) ∧ ∀ i m σ H, W i m σ H →
      ((Ite K a).stop i H ∧ D.nx σ H) ∨ ((Ite K a).go i H ∧ ∃ N : L2.St → Hp → Prop, (∀ σ' H', N σ' H' → ∃ m', m' < m ∧ W (i + 1) m' σ' H') ∧ ∀ x H', (Ite K a).yld i H x H' → g x σ H' fun σ2 H2 => tb { D with nx := N, ct := N, bk := D.nx } σ2 H2) :=
  for_it walk_enum Pv h0 (fun i σ H _ p => hq i σ H p) (fun i v σ H H' _ p y => by
    obtain ⟨T, x, y, rfl, hT, rfl, e1, e2⟩ := y
    cases e1
    exact hs i _ T σ H e2 p hT) hd
end
/-! ### foreign objects -/
/-- all but the objects of L are kept -/
def Fr (L : List Addr) (H H' : Hp) : Prop := ∀ b o, b ∉ L → H b = some o → H' b = some o
theorem Fr.refl (L : List Addr) (H : Hp) : Fr L H H := fun _ _ _ h => h
theorem Fr.trans {L : List Addr} {H H1 H2 : Hp} (a : Fr L H H1) (b : Fr L H1 H2) : Fr L H H2 := fun c o n h => b c o n (a c o n h)
theorem Fr.of {L : List Addr} {H H' : Hp} (s : Same H H') : Fr L H H' := fun b o _ e => s b o e
theorem Fr.up {L : List Addr} {H H' : Hp} {a : Addr} {o : HO} (k : Fr L H H') (h : a ∈ L) : Fr L H (upd H' a o) := fun b u n e => by
  rw [upd_ne (fun z : b = a => n (by rw [z]; exact h))]
  exact k b u n e
theorem Fr.new {L : List Addr} {H H' : Hp} {a : Addr} {o : HO} (k : Fr L H H') (h : H a = none) : Fr L H (upd H' a o) := fun b u n e => by
  rw [upd_ne (ne_of_none e h)]
  exact k b u n e
theorem Fr.le {L M : List Addr} {H H' : Hp} (k : Fr L H H') (h : ∀ a ∈ L, a ∈ M) : Fr M H H' := fun b u n e => k b u (fun z => n (h b z)) e
/-- tuples stay -/
def Tu (H H' : Hp) : Prop := ∀ a xs, H a = some (.tup xs) → H' a = some (.tup xs)
end Dq
namespace Dq
open PySem PySem.Spec PyProof.Rows L2 Fw Gk
section
variable {H : Hp} {Q : VK} {v : V}
theorem w_isNb {b : Bool} (hd : decide (v = V.non) = b) (q : Q (.bl b) H) : rIsN v V.non H Q := ⟨rfl, by rw [hd]; exact q⟩
theorem w_notNb {b : Bool} (hd : decide (v = V.non) = b) (q : Q (.bl (!b)) H) : rNotN v V.non H Q := ⟨rfl, by rw [hd]; exact q⟩
theorem w_notN0 (q : Q (.bl false) H) : rNotN .non V.non H Q := w_notNb rfl q
theorem w_isN0 (q : Q (.bl true) H) : rIsN .non V.non H Q := w_isNb rfl q
theorem w_notNR {a : Addr} (q : Q (.bl true) H) : rNotN (.ref a) V.non H Q := w_notNb (b := false) (decide_eq_false (fun z => by cases z)) q
theorem w_isNR {a : Addr} (q : Q (.bl false) H) : rIsN (.ref a) V.non H Q := w_isNb (decide_eq_false (fun z => by cases z)) q
theorem w_notNI {a : Int} (q : Q (.bl true) H) : rNotN (.int a) V.non H Q := w_notNb (b := false) (decide_eq_false (fun z => by cases z)) q
theorem w_isNI {a : Int} (q : Q (.bl false) H) : rIsN (.int a) V.non H Q := w_isNb (decide_eq_false (fun z => by cases z)) q
theorem look1 {f g : Str} {x : V} {r : List (Str × V)} (h : (g == f) = true) : List.lookup g ((f, x) :: r) = some x := by rw [List.lookup_cons, h]
theorem look0 {f g : Str} {x : V} {r : List (Str × V)} (h : (g == f) = false) : List.lookup g ((f, x) :: r) = r.lookup g := by rw [List.lookup_cons, h]
theorem w_aSub {i j : Int} (q : Q (.int (i - j)) H) : rSub (.int i) (.int j) H Q := ⟨i, j, rfl, rfl, q⟩
theorem w_aAdd {i j : Int} (q : Q (.int (i + j)) H) : rAdd (.int i) (.int j) H Q := ⟨i, j, rfl, rfl, q⟩
theorem w_orV {ta tb : TE} {σ : L2.St} (h : ta σ H fun x H1 => ∃ c, x = .bl c ∧ if c = true then Q (.bl true) H1 else tb σ H1 Q) : tOrV ta tb σ H Q := h
theorem w_andV {ta tb : TE} {σ : L2.St} (h : ta σ H fun x H1 => ∃ c, x = .bl c ∧ if c = true then tb σ H1 Q else Q (.bl false) H1) : tAndV ta tb σ H Q := h
theorem w_js {t : TE} {ts : List TE} {acc : Str} {σ : L2.St} {R : Str → Hp → Prop} (h : t σ H fun x H1 => ∃ y : Str, x = .str y ∧ (acc ++ y).length ≤ sizeLine ∧ tJs ts (acc ++ y) σ H1 R) : tJs (t :: ts) acc σ H R := h
theorem w_js0 {acc : Str} {σ : L2.St} {R : Str → Hp → Prop} (q : R acc H) : tJs [] acc σ H R := q
theorem w_fm {te : TE} {σ : L2.St} (h : te σ H fun x H1 => (∃ y : Str, x = .str y ∧ y.length ≤ sizeLine ∧ Q (.str y) H1) ∨ ∃ i : Int, x = .int i ∧ i.natAbs.log2 < 1920 ∧ Q (.str (toString i)) H1) : tFmt te σ H Q := h
theorem fmt_n {n : Nat} (h : n < 10 ^ 7) {acc : Str} (ha : acc.length ≤ 1000) {R : Str → Prop} {B : Prop} (q : ∀ z, R z) : B ∨ ∃ i : Int, V.int (n : Int) = .int i ∧ i.natAbs.log2 < 1920 ∧ ∃ y : Str, V.str (toString i) = .str y ∧ (acc ++ y).length ≤ sizeLine ∧ R (acc ++ y) := by
  refine .inr ⟨(n : Int), rfl, ?_, ⟨_, rfl, ?_, q _⟩⟩
  · by_cases h0 : n = 0
    · subst h0
      decide
    · rw [Int.natAbs_natCast]
      have := (Nat.log2_lt h0 (k := 24)).mpr (Nat.lt_of_lt_of_le h (by decide))
      omega
  · rw [str_len_app]
    exact Nat.le_trans (Nat.add_le_add ha (num_short h)) (by decide)
theorem fmt_j {n : Nat} (h : n < 10 ^ 7) {acc : Str} (ha : acc.length ≤ 1000) {σ : L2.St} {R : Str → Hp → Prop} {B : Prop} (q : ∀ z, R z H) : B ∨ ∃ i : Int, V.int (n : Int) = .int i ∧ i.natAbs.log2 < 1920 ∧ ∃ y : Str, V.str (toString i) = .str y ∧ (acc ++ y).length ≤ sizeLine ∧ tJs [] (acc ++ y) σ H R :=
  fmt_n (R := fun z => tJs [] z σ H R) h ha fun z => q z
theorem w_ifV {tt : TT} {ta tb : TE} {σ : L2.St} {R : VK} (G : V → Hp → Prop) (h1 : ∀ R' : VK, (∀ v H', G v H' → R' v H') → tIf tt ta tb σ H R') (h2 : ∀ v H', G v H' → R v H') : tIf tt ta tb σ H R := h1 R h2
theorem putF_ne {f g : Str} {v x : V} {r : List (Str × V)} (h : (g == f) = false) : putF f v ((g, x) :: r) = (g, x) :: putF f v r := by
  rw [putF, if_neg (fun z => by rw [z] at h; simp at h)]
theorem putF_eq {f : Str} {v x : V} {r : List (Str × V)} : putF f v ((f, x) :: r) = (f, v) :: r := by rw [putF, if_pos rfl]
theorem pc1 {p : Str × V} {r s : List (Str × V)} (h : r = s) : p :: r = p :: s := by rw [h]
end
end Dq
end

section
-- part Fdd
set_option Elab.async false
set_option linter.all false
set_option maxRecDepth 100000
set_option maxHeartbeats 2000000
/-! Fdd: methods that call one another some hundred times deep -/
namespace Fdd
open PySem PySem.Spec PyProof.Rows L2 Fw
/-- room for m calls, one in another -/
structure RoomD (m : Nat) (A : Around) : Prop where
  hd : A.handled = none
  dp : A.depth + m + 60 < recursionLimit
  un : A.units + 3 * m + 1000 < cLine
theorem RoomD.room {m : Nat} {A : Around} (h : RoomD m A) : Room 15 A := ⟨h.hd, by have := h.dp; omega, by have := h.un; omega⟩
theorem RoomD.deeper {m : Nat} {A : Around} (h : RoomD (m + 1) A) (env : Env) : RoomD m (A.deeper env) := ⟨h.hd, by
  have := h.dp
  show A.depth + 1 + m + 60 < recursionLimit
  omega, by
  have := h.un
  show A.units + 3 + 3 * m + 1000 < cLine
  omega⟩
theorem RoomD.of {k m : Nat} {A : Around} (h : Room k A) (h1 : m + 55 ≤ 3 * k) (h2 : 3 * m + 800 ≤ 16 * k) : RoomD m A := ⟨h.hd, by have := h.dp; omega, by have := h.un; omega⟩
theorem RoomD.mono {k m : Nat} {A : Around} (h : RoomD k A) (h1 : m ≤ k) : RoomD m A := ⟨h.hd, by have := h.dp; omega, by have := h.un; omega⟩
structure FnD (P : Program) (w : World) (K : PySem.W.Frag) (mg : Str → Option Value) (base : Heap) (CX : CXT) (m : Nat) (f : Addr) (fd : FuncData) (ps : List Str) (sp : Sp) : Prop where
  len : ∀ vs H Q E, sp vs H Q E → vs.length = ps.length
  run : ∀ (A : Around) (outer : List Env) (s : Shared) (H : Hp) (args : Args) (us : List Value) (vs : List V) (Q : VK) (E : XK), RoomD m A → Env0 P w K mg base A outer s H → BindsTo s fd args (ps.zip us) → Vals vs us → sp vs H Q E → codeAny (model P w) A (.call (.ref f) args) (CR CX outer P w H s Q E) s
section
variable {CX : CXT} {P : Program} {w : World} {K : PySem.W.Frag} {mg : Str → Option Value} {base : Heap} {m : Nat} {f : Addr} {name qual : Str} {params : Arguments} {body : List Stmt} {scope : Scope} {dV kV doc pm cdv ct oc : Value} {an od : Option Addr} {osl : Array (Option Value)} {N ps : List Str} {sp : Sp}
theorem fn_ofD (lk : K.lookup f = some ⟨oc, od, .func (PySem.W.fnOf name qual params body scope dV kV doc pm an cdv ct), osl⟩) (hcd : PySem.W.codeIn K cdv qual = true) (S : FnScope N ps scope) (len : ∀ vs H Q E, sp vs H Q E → vs.length = ps.length)
    (hbody : ∀ (A : Around) (outer : List Env) (s : Shared) (H : Hp) (vs : List V) (Q : VK) (E : XK), RoomD m (A.deeper (envOfC qual scope s.heap.objs.size f cdv)) → sp vs H Q E →
      ∃ t, PSs (cxOf CX P w K mg base N qual scope f cdv A outer s H E) body t ∧ t { nx := fun _ H' => Q .non H', rt := Q } (start N vs) H) : FnD P w K mg base CX (m + 1) f (PySem.W.fnOf name qual params body scope dV kV doc pm an cdv ct) ps sp := by
  refine ⟨len, fun A outer s H args us vs Q E hr e0 hb r hsp => ?_⟩
  have hl := len vs H Q E hsp
  have KX := PySem.W.Frag.In.keeps e0.mod.kin fun b o e => (e0.bs b o e).left
  have lim := Heap.NoLimit.keeps e0.mod.nolimit fun b o e => (e0.bs b o e).left
  refine codeAny_call_function (Room.depth hr.room) (KX f _ lk) rfl S.co S.gen rfl (PySem.W.codeRec_of KX hcd) ?_
  refine hb (model P w) A.in1 _ _ (wpAny_newFunctionEnv_cells S.kind (fun x hy => ?_) fun env he s1 x => ?_)
  · obtain ⟨n, v⟩ := x
    exact (S.par n (List.of_mem_zip hy).left).elim (fun q => .inl q) fun q => .inr ⟨q, PySem.W.cellsFrom_some scope.names (s.heap.objs.size + 1) [] (.inl q)⟩
  · subst he
    refine ⟨Heap.NoLimit.keeps lim x.toInCall.keep, codeAny_func ?_⟩
    obtain ⟨t, ht, hq⟩ := hbody A outer s H vs Q E (hr.deeper _) hsp
    have I := inv_start (CX := CX) (E := E) S hr.hd e0 hl r x
    refine wpAny_mono (ht.run [] s1 (start N vs) H _ I hq) (fun fl s' hs => ?_) fun e s' hs => hs
    cases fl with
    | next =>
      obtain ⟨σ', H', J, q⟩ := hs
      exact ⟨.non, H', J.os, J.bare, J.base, J.hok, rfl, q⟩
    | brk => exact hs.elim fun _ h => h.elim fun _ h => h.2.elim
    | cont => exact hs.elim fun _ h => h.elim fun _ h => h.2.elim
    | ret u =>
      obtain ⟨v, σ', H', J, rv, q⟩ := hs
      exact ⟨v, H', J.os, J.bare, J.base, J.hok, rv, q⟩
end
theorem run_fnD {X : Cx} {CX : CXT} {k : Nat} {f : Addr} {fd : FuncData} {ps : List Str} {sp : Sp} {dvs : List V} {ds : List Value} {E : XK} {pins : List (Addr × Obj)} {σ : L2.St} {H : Hp} {s : Shared} {Q : VK} {us : List Value} {vs : List V}
    (F : FnD X.prog X.w X.K X.mg X.base CX k f fd ps sp) (hr : RoomD k X.A) (hb : Binds X.K fd ps ds) (hd : Vals dvs ds) (hx : Passes CX X E) (I : Inv X pins σ H s) (r : Vals vs us) (h : sp (vs ++ dvs) H Q E) : wpAny (model X.prog X.w) X.A (call (.ref f) us) (EP X pins σ Q) X.xe s := by
  have r2 := Vals.append r hd
  have hl : (us ++ ds).length = ps.length := by rw [← Vals.length r2]; exact F.len (vs ++ dvs) H Q E h
  refine wpAny_call (codeAny_mono (F.run X.A X.stack s H ⟨us, []⟩ (us ++ ds) (vs ++ dvs) Q E hr I.env0 (hb s us I.kIn hl) r2 h) fun r s' hq => ?_)
  cases r with
  | error e => exact hx pins σ H s e s' I hq
  | ok fl =>
    cases fl with
    | ret u => exact I.after hq
    | next => exact False.elim hq
    | brk => exact False.elim hq
    | cont => exact False.elim hq
/-- a method of the class at C that wants room for m calls -/
structure MeD (P : Program) (w : World) (K : PySem.W.Frag) (mg : Str → Option Value) (base : Heap) (k : Nat) (C : Addr) (m : Str) (sp : Sp) : Prop where
  ex : ∃ (f : Addr) (fd : FuncData) (ps : List Str), Cls K C ∧ Meth K C m f ∧ FnD P w K mg base (L2.CX P w) k f fd ps sp ∧ Binds K fd ps []
section
variable {P : Program} {w : World} {K : PySem.W.Frag} {mg : Str → Option Value} {base : Heap} {x m qual : Str} {st : Stmt} {C : Addr}
theorem me_mkD {N ps : List Str} {k : Nat} {sp : Sp} (F : FnM K C m qual st) (c : Cls K C) (S : FnScope N ps (defScope st))
    (b : ∀ (kV doc pm : Value) (an : Option Addr) (cdv ct : Value) (us : List Value), us.length = ps.length → bindArgs (PySem.W.fnOf m qual (defArgs st) (defBody st) (defScope st) .none kV doc pm an cdv ct) ⟨us, []⟩ = pure (ps.zip us))
    (len : ∀ vs H Q E, sp vs H Q E → vs.length = ps.length)
    (hbody : ∀ (f : Addr) (cdv : Value) (A : Around) (outer : List Env) (s : Shared) (H : Hp) (vs : List V) (Q : VK) (E : XK), RoomD k (A.deeper (envOfC qual (defScope st) s.heap.objs.size f cdv)) → sp vs H Q E →
      ∃ t, PSs (cxOf (L2.CX P w) P w K mg base N qual (defScope st) f cdv A outer s H E) (defBody st) t ∧ t { nx := fun _ H' => Q .non H', rt := Q } (start N vs) H) : MeD P w K mg base (k + 1) C m sp := by
  obtain ⟨f, fd, F, M⟩ := F
  have bb := F.bindsN b
  refine ⟨f, fd, ps, c, M, ?_, bb⟩
  clear bb
  obtain ⟨oc, od, dV, kV, doc, pm, an, cdv, ct, osl, rfl, lk, hcd, _, _⟩ := F.ex
  exact fn_ofD lk hcd S len fun A outer s H vs Q E hr h => hbody f cdv A outer s H vs Q E hr h
end
section
variable {X : Cx} {k j : Nat} {C : Addr} {m : Str} {sp : Sp} {E : XK} {pos apos : Pos} {o : Expr} {ta : TE}
theorem pe_me0D {pl : Sem Bool} (c : MeD X.prog X.w X.K X.mg X.base k C m sp) (hr : RoomD j X.A) (hk : k ≤ j) (hx : Passes (L2.CX X.prog X.w) X E) (he : PE X o ta)
    (ht : eval (.Call (.Attribute o m apos) [] [] pos) X.env = (do
      let ov ← eval o X.env
      standAt apos.atName
      let (f, first) ← holding [ov] (getMethod ov m pl)
      callWith pos f first (backTo pos (starEach [] X.env)) (backToKw pos (keywordEach [] X.env))) := by rfl) :
    PE X (.Call (.Attribute o m apos) [] [] pos) (tMe C m sp E ta tNil) := by
  obtain ⟨f, fd, ps, hc, hm, F, b⟩ := c.ex
  refine ⟨fun pins s σ H Q I h => ?_⟩
  refine PySem.W.methodCall_KW (thn (he.run pins s σ H _ I h) fun u s1 x => ?_) ht
  obtain ⟨x, H1, I1, rx, a, dx, fs, rfl, ea, l, q⟩ := x
  obtain rfl : u = Value.ref a := rx
  refine getmeth_ok I1 ea hc hm l (PySem.W.callWith_K0 I1.kIn hm.kp ?_)
  exact run_fnD (dvs := []) (ds := []) (vs := [V.ref a]) F (hr.mono hk) b .nil hx I1 (Paired.cons rfl Paired.nil) q
end
end Fdd
end

section
-- part Fgt
set_option Elab.async false
set_option linter.all false
set_option maxRecDepth 100000
set_option maxHeartbeats 2000000
/-! Fgt: all of a test over a text, the test by a text of the module, the def's table of code objects kept by names -/
namespace GnT
open PySem PySem.Spec PyProof.Rows L2 LamX
open GxR (GenS keeps_refl keeps_tok sh_eta passing_true trF trF_some)
open GnI (moved_inv)
/-- the test of a sign, the module's names at hand -/
def EltG (prog : Program) (w : World) (mg : Str → Option Value) (scope : Scope) (x : Str) (elt : Expr) (pb : Nat → Bool) : Prop :=
  ∀ (ce : Env) (B : Around) (F : Value → Shared → Prop) (c : Nat) (t : Tok) (z : Shared) (m : Str → Option Value), ce.scope = scope → z.heap.Ns ce.globals mg → z.heap.Ns ce.locals m → m x = some (.str ⟨#[c]⟩ t) →
    wpAny (model prog w) B (eval elt ce) (fun y z' => y = .bool (pb c) ∧ Keeps z z') F z
/-- x in k, k a text of the module -/
theorem eltG_in {prog : Program} {w : World} {mg : Str → Option Value} {scope : Scope} {x g k : Str} {p1 p2 p3 : Pos} (hv : ∃ u, mg g = some u ∧ RelV (.str k) u) (hk : scope.kind = .function) (hl : scope.names.lookup x = some .local) (hgl : scope.names.lookup g = some .globalImplicit)
    (hd : (x == ("__debug__" : Str)) = false := by decide) (hd2 : (g == ("__debug__" : Str)) = false := by decide) :
    EltG prog w mg scope x (.Compare (.Name x p1) [.In] [.Name g p2] p3) (fun c => !(Builtin.Str.occurrences k ⟨#[c]⟩ 0 k.length 1).isEmpty) := by
  intro ce B F c t z m hs hg hn hm
  obtain ⟨u, hv, t', rfl⟩ := hv
  refine wpAny_Compare1 (wpAny_Name (wpAny_loadName_local (by rw [hs]; exact hk) (show ce.scope.names.lookup x = some .local by rw [hs]; exact hl) hn hm ?_) hd)
  refine Calls.Name_function_global (by rw [hs]; exact hk) (show ce.scope.names.lookup g = some .globalImplicit by rw [hs]; exact hgl) (Calls.loadGlobal_global hg hv ?_) hd2
  exact PySem.P.in_str ⟨rfl, keeps_refl _⟩
variable {X : Cx} {pins : List (Addr × Obj)} {σ : L2.St} {H : Hp} {s : Shared}
/-- the generator g over the signs of a, ready to be walked, in the state z -/
def Ready (X : Cx) (pins : List (Addr × Obj)) (σ : L2.St) (H1 : Hp) (T : List (Addr × Str)) (a : Str) (pb : Nat → Bool) (g : Addr) (z : Shared) : Prop :=
  ∃ (fp wr : List Addr) (G : Array GenState → Array GenState → Prop) (F : Nat → Value → Prop) (St : Nat → Shared → Prop),
    WalksS X.prog X.w X.A.in1 g fp wr G a.cps.size F St ∧ St 0 z ∧ TruthOf X.prog X.w X.A.in1 F (trF pb a.cps.toList) ∧ ∀ z', Moved wr G z z' → ∃ H2, ExtN H1 H2 ∧ Tabs T H2 ∧ Inv X pins σ H2 z'
theorem gen_signs {T : List (Addr × Str)} {c P : Addr} {elt iter : Expr} {x : Str} {px gpos : Pos} {scope : Scope} {pb : Nat → Bool} {te : TE} {k : Nat} {Q' : Value → Shared → Prop} {R : Str → Hp → Prop}
    (hr : Room k X.A) (TB : TabB X.base X.mg c P) (hcode : X.env.code = .ref c) (hm : (P, X.env.qual ++ "<genexpr>") ∈ T) (hu : ∀ p ∈ T, p.1 = P → p.2 = X.env.qual ++ "<genexpr>") (S : GenS X.env scope x) (hi : PE X iter te) (hel : EltG X.prog X.w X.mg scope x elt pb)
    (hs : ∀ v, genFold iter X.env v = pure v) (I : Inv X pins σ H s) (h : te σ H fun v H1 => ∃ a : Str, v = .str a ∧ Tabs T H1 ∧ R a H1)
    (hQ : ∀ a H1 g z, R a H1 → Ready X pins σ H1 T a pb g z → Q' (.ref g) z) : wpAny (model X.prog X.w) X.A (eval (.GeneratorExp elt [⟨.Name x px, iter, [], 0⟩] scope gpos) X.env) Q' X.xe s := by
  refine wpAny_GeneratorExp_walksQ hr.hd S.co (closure_ok S.free) S.cell S.dot S.loc S.kind (by have := hr.dp; omega) (thn (hi.run pins s σ H _ I h) fun xv s1 ⟨v, H1, I1, r1, q1⟩ => ?_) hs
  obtain ⟨a, rfl, hT, q1⟩ := q1
  obtain ⟨t, rfl⟩ := _root_.id r1
  obtain ⟨ps, hP, htr, hnm⟩ := hT _ hm
  refine wpAny_pyIter_str fun o St W hst => ?_
  have hPs : s1.heap.get? P = some { cls := .none, data := .fields ps } := I1.hok P _ hP
  have hPlt : P < s1.heap.objs.size := Heap.lt_size hPs
  obtain ⟨N, eN⟩ : ∃ N : Nat, N = s1.heap.objs.size := ⟨_, rfl⟩
  have sz2 : (s1.heap.push o).objs.size = N + 1 := by rw [Heap.size_push, ← eN]
  have kp2 : ∀ b u, s1.heap.get? b = some u → (s1.heap.push o).get? b = some u := fun b u e => Heap.get?_push_of_some _ e
  have cd : PySem.W.CodeHd (s1.heap.push o) c P := TB.code.keeps fun b u e => kp2 b u (I1.bk b u e)
  have lim2 : (s1.heap.push o).NoLimit := I1.nolimit.push o
  have cont : ∀ (code : Value) (h3 : Heap) (tk : Nat), Heap.ExtBut P (s1.heap.push o) h3 → (s1.heap.push o).objs.size ≤ h3.objs.size →
      (∀ (h' : Heap) (t' : Nat), (∀ b u, b ≠ N → h3.get? b = some u → h'.get? b = some u) → ∃ H3, ExtN H1 H3 ∧ Tabs T H3 ∧ Inv X pins σ H3 { s1 with heap := h', toks := t' }) →
      wpAny (model X.prog X.w) X.A (builtinsFor X.env.globals X.env.builtins) (fun bi z =>
        ∃ Ia fp wr n₀ Pf St₀ pz F, Value.ref N = .ref Ia ∧ (∀ B : Around, B.handled = none → Walks X.prog X.w B Ia fp wr n₀ Pf St₀) ∧ St₀ 0 z.heap ∧ (∀ b ∈ fp, b < z.heap.objs.size) ∧ z.heap.NoLimit ∧ cStatics ∉ wr ∧
          (∀ hz : Heap, (∀ b o, z.heap.get? b = some o → hz.get? b = some o) →
            QuietGen X.prog X.w (genEnv scope (cloFrom X.env.cells scope.names []) z.heap.objs.size code bi X.env) x [] elt (List.range z.heap.objs.size) wr Pf pz F hz) ∧
          (∀ a h₅ tk gs, gs.bare = true → z.heap.objs.size < a → h₅.objs.size = a + 1 → (∀ b o, z.heap.get? b = some o → h₅.get? b = some o) →
            WalksS X.prog X.w X.A.in4 a (a :: z.heap.objs.size :: List.range z.heap.objs.size) (z.heap.objs.size :: wr) (GenOnlyQ z.gens.size) (passing pz n₀ 0).length
              (fun j y => ∃ i, (passing pz n₀ 0)[j]? = some i ∧ F i y) (GenAt X.prog X.w X.A.in4 a z.gens.size z.heap.objs.size (List.range z.heap.objs.size) wr pz n₀ F) →
            GenAt X.prog X.w X.A.in4 a z.gens.size z.heap.objs.size (List.range z.heap.objs.size) wr pz n₀ F 0 { z with gens := z.gens.push gs, toks := tk, heap := h₅ } →
            Q' (.ref a) { z with gens := z.gens.push gs, toks := tk, heap := h₅ })) X.xe { s1 with heap := h3, toks := tk } := by
    intro code h3 tk hx hsz hI
    obtain ⟨bm, ob, e1, e2, e3, e4, e5, e6, e7, e8⟩ := TB.bm
    have hsz' : N + 1 ≤ h3.objs.size := by rw [← sz2]; exact hsz
    have keep3 : ∀ b u, b ≠ P → s1.heap.get? b = some u → h3.get? b = some u := fun b u hb e => hx b u hb (kp2 b u e)
    have hclt : cStatics < N := by rw [eN]; exact let ⟨_, hns, _⟩ := I1.nolimit; hns.lt
    refine wpAny_builtinsFor (m := X.mg) (by rw [I1.ok.glob]; exact ((I1.mod.glob.keeps I1.bk).push o).extBut hx TB.gP) e1 e2 (keep3 _ _ e4 (I1.bk _ _ e5)) e6 e7 e8 ?_
    have itP : N ≠ P := fun z => by rw [eN] at z; exact Nat.ne_of_lt hPlt z.symm
    obtain ⟨_, _, _, I3⟩ := hI h3 tk fun b u _ e => e
    refine ⟨N, [N], [N], a.cps.size, SignAt a, St, (fun _ => true), (fun i y => ∃ b, a.cps[i]? = some b ∧ y = .bool (pb b)), rfl, eN ▸ W, ?_, fun b hb => ?_, I3.nolimit, fun z => ?_, fun hz hhz => ?_, fun g h5 tk5 gs hgb hag hsz5 hk5 W5 hat => ?_⟩
    · have W' := W X.A hr.hd
      rw [← eN] at W'
      refine W'.frame _ _ _ hst fun b hb u e => hx b u (fun z => ?_) e
      rw [List.mem_singleton.mp hb] at z
      exact itP z
    · show b < h3.objs.size
      rw [List.mem_singleton.mp hb]; exact Nat.lt_of_lt_of_le (Nat.lt_succ_self N) hsz'
    · rw [List.mem_singleton.mp z] at hclt
      exact Nat.lt_irrefl _ hclt
    · refine ⟨fun B F' i v s₂ m₂ hB hPv hn hm hk => ?_, fun B F' i v s₂ m₂ hB hPv hp hn hm hk => ?_⟩
      · simp only [List.forIn_nil]
        exact wpAny_pure ⟨rfl, keeps_refl _⟩
      · obtain ⟨b, u, hb, rfl⟩ := hPv
        have hgl : s₂.heap.Ns X.env.globals X.mg := by
          have g1 : h3.Ns X.env.globals X.mg := by rw [I1.ok.glob]; exact ((I1.mod.glob.keeps I1.bk).push o).extBut hx TB.gP
          have g0 : s1.heap.Ns X.env.globals X.mg := by rw [I1.ok.glob]; exact I1.mod.glob.keeps I1.bk
          have gl := g1.lt
          have gN : X.env.globals ≠ N := by rw [eN]; exact Nat.ne_of_lt g0.lt
          obtain ⟨ob, es, ep, ho, r⟩ := g1
          exact ⟨ob, es, ep, hk _ (List.mem_range.mpr gl) (fun z => gN (List.mem_singleton.mp z)) _ (hhz _ _ ho), r⟩
        exact wpAny_mono (hel _ B F' b u s₂ m₂ rfl hgl hn hm) (fun y s3 r => ⟨⟨b, hb, r.1⟩, r.2⟩) fun _ _ e => e
    · simp only [GxR.passing_true, List.length_range] at W5
      refine hQ a H1 g _ q1 ⟨_, _, _, _, _, W5.in4_1, hat, fun j y sj Qj Ej hy hQj => ?_, fun z' hmv => ?_⟩
      · obtain ⟨i, hij, b, hb, rfl⟩ := hy
        obtain ⟨hj, ej⟩ := List.getElem?_eq_some_iff.mp hij
        rw [List.getElem_range] at ej
        subst ej
        have e9 : a.cps.toList[j]? = some b := by rw [Array.getElem?_toList]; exact hb
        have hQ2 : Qj (trF pb a.cps.toList j) sj := hQj
        rw [trF_some e9] at hQ2
        exact wpAny_truthy_bool hQ2
      · obtain ⟨H3, eN3, hT3, I4⟩ := hI z'.heap z'.toks fun b u hb e => hmv.heap b u (fun z => by
          rcases List.mem_cons.mp z with z | z
          · rw [z] at e
            exact Nat.lt_irrefl _ (Heap.lt_size e)
          · exact hb (List.mem_singleton.mp z)) (hk5 b u e)
        have J := moved_inv (g' := z'.gens) (d' := z'.drawn) (t' := z'.toks) (h' := z'.heap) I4 (fun b u e => e) (AllBare.movedS (I1.bare.push hgb) hmv)
        have J2 := sh_eta { s1 with heap := h3, toks := tk } z' hmv.os
        rw [← J2]
        exact ⟨H3, eN3, hT3, J⟩
  subst eN
  refine ⟨lim2, ?_⟩
  have hP2 : (s1.heap.push o).get? P = some { cls := .none, data := .fields ps } := kp2 _ _ hPs
  have nN : ∀ b u, s1.heap.get? b = some u → b ≠ s1.heap.objs.size := fun b u e => Nat.ne_of_lt (Heap.lt_size e)
  cases hf : codeAmong gpos ps.toList with
  | none =>
    refine wpAny_genexprCodeX hcode (cd.code hP2 htr) (cd.tab hP2) hf fun c' h' tk hx hge hlt hco' hrec htab' _ => ?_
    obtain ⟨c2, oc, vs, t, e2, hoc, hd, hv⟩ := hrec
    cases e2
    have hge1 : s1.heap.objs.size + 1 ≤ c' := by rw [← sz2]; exact hge
    have hge' : s1.heap.objs.size ≤ c' := Nat.le_of_succ_le hge1
    have nC : H1 c' = none := I1.hok.fresh hge'
    have hE : ExtN H1 (upd (upd H1 P (.tbl (ps ++ #[rawInt gpos.line, rawInt gpos.col, .ref c']))) c' (CodeO c' (X.env.qual ++ "<genexpr>"))) := fun b u e n => by
      rw [upd_ne (ne_of_none e nC), upd_ne (fun z => n ps (Option.some.inj (e.symm.trans (by rw [z]; exact hP))))]
      exact e
    have eL : (ps ++ #[rawInt gpos.line, rawInt gpos.col, .ref c']).toList = ps.toList ++ [rawInt gpos.line, rawInt gpos.col, .ref c'] := by simp
    refine cont _ h' tk hx (Nat.le_trans hge (Nat.le_of_lt hlt)) fun h'' t'' k'' => ⟨_, hE, fun p hp => ?_, inv_table (t' := t'') (more := #[rawInt gpos.line, rawInt gpos.col, .ref c']) (h' := h'') I1 hP (fun b u hb e => k'' b u (nN b u e) (hx b u hb (kp2 b u e))) (k'' P _ (nN _ _ hPs) htab'.2) hge' ⟨oc, vs, t, k'' c' _ (Nat.ne_of_gt hge1) hoc, hd, hv⟩⟩
    by_cases hb : p.1 = P
    · rw [hu p hp hb, hb]
      refine ⟨_, by rw [upd_ne (ne_of_none hP nC), upd_same], by rw [eL]; exact PySem.TriplesOk_snoc _ _ _ _ htr, fun p' cv hcv => ?_⟩
      rw [eL] at hcv
      rcases among_app _ htr hcv with z | z
      · obtain ⟨c0, e1, e2⟩ := hnm p' cv z
        exact ⟨c0, e1, hE _ _ e2 codeO_ne⟩
      · exact ⟨c', z, upd_same⟩
    · obtain ⟨ps', a1, a2, a3⟩ := hT p hp
      refine ⟨ps', by rw [upd_ne (ne_of_none a1 nC), upd_ne hb]; exact a1, a2, fun p' cv hcv => ?_⟩
      obtain ⟨c0, e1, e2⟩ := a3 p' cv hcv
      exact ⟨c0, e1, hE _ _ e2 codeO_ne⟩
  | some cv =>
    refine wpAny_genexprCode_hit hcode (cd.code hP2 htr) hf ?_
    exact cont cv (s1.heap.push o) s1.toks (Heap.ExtBut.refl _ _) (Nat.le_refl _) fun h'' t'' k'' => ⟨H1, ExtN.refl H1, hT, I1.kept fun b u e => k'' b u (nN b u e) (kp2 b u e)⟩
/-- all(test for x in e), e a text -/
def tAllG (T : List (Addr × Str)) (pb : Nat → Bool) (te : TE) : TE := fun σ H Q => te σ H fun v H1 => ∃ a : Str, v = .str a ∧ Tabs T H1 ∧ ∀ H2, ExtN H1 H2 → Tabs T H2 → Q (.bl (a.cps.toList.all pb)) H2
theorem pe_allG {T : List (Addr × Str)} {c P : Addr} {elt iter : Expr} {x : Str} {px p pos gpos : Pos} {scope : Scope} {pb : Nat → Bool} {te : TE} {k : Nat} (hr : Room k X.A) (hg : Gl X "all") (hma : X.mg "all" = none) (hb : bootBuiltins "all" = some (.builtin "all")) (TB : TabB X.base X.mg c P) (hcode : X.env.code = .ref c)
    (hm : (P, X.env.qual ++ "<genexpr>") ∈ T) (hu : ∀ p ∈ T, p.1 = P → p.2 = X.env.qual ++ "<genexpr>") (S : GenS X.env scope x) (hi : PE X iter te) (hel : EltG X.prog X.w X.mg scope x elt pb) (hs : ∀ v, genFold iter X.env v = pure v)
    (he : starEach [.GeneratorExp elt [⟨.Name x px, iter, [], 0⟩] scope gpos] X.env = (false, eval (.GeneratorExp elt [⟨.Name x px, iter, [], 0⟩] scope gpos) X.env) :: starEach [] X.env := by rfl) :
    PE X (.Call (.Name "all" p) [.GeneratorExp elt [⟨.Name x px, iter, [], 0⟩] scope gpos] [] pos) (tAllG T pb te) := by
  refine ⟨fun pins s σ H Q I h => wpAny_Call_Name_kw (ld_blt I hg hma hb (PyProof.Rows.callWith_builtin1 ?_ he (by rfl)))⟩
  rw [he]
  show wpAny _ _ (spliced ((false, eval (.GeneratorExp elt [⟨.Name x px, iter, [], 0⟩] scope gpos) X.env) :: backTo pos (starEach [] X.env))) _ _ s
  refine Calls.spliced_cons (gen_signs (R := fun a H1 => ∀ H2, ExtN H1 H2 → Tabs T H2 → Q (.bl (a.cps.toList.all pb)) H2) hr TB hcode hm hu S hi hel hs I h fun a H1 g z hR hG => Calls.spliced_nil ?_)
  obtain ⟨fp, wr, G, F, St, W, hst, htr, hI⟩ := hG
  refine call_all_walkS (W.self 0 _ _ _ hst ⟨g, fp, wr, G, _, F, St, _, rfl, W, hst, htr, fun s' hmv => ?_⟩)
  obtain ⟨H2, hE, hT, J⟩ := hI s' hmv
  exact ⟨.bl _, H2, J, rfl, by rw [GxR.all_signs a pb]; exact hR H2 hE hT⟩
theorem w_allG {T : List (Addr × Str)} {pb : Nat → Bool} {te : TE} {Q : VK} (h : te σ H fun v H1 => ∃ a : Str, v = .str a ∧ Tabs T H1 ∧ ∀ H2, ExtN H1 H2 → Tabs T H2 → Q (.bl (a.cps.toList.all pb)) H2) : tAllG T pb te σ H Q := h
end GnT
end

section
-- part Ftx
set_option Elab.async false
set_option linter.all false
set_option maxRecDepth 100000
set_option maxHeartbeats 2000000
/-! Ftx: find between two places, is True, == of data at any depth beside a flat one, int(text), join -/
namespace Ftx
open PySem PySem.Spec PyProof.Rows L2 Fw
open SX (S_len S_inj S_cat)
open Builtin.Str PySem.StrLaws
theorem toIx {n q : Nat} : toIndexW n (q : Int) = min q n := by
  unfold toIndexW
  rw [if_neg (by omega)]
  omega
/-- a sign's place among those below hi -/
theorem occ_in (x y : Str) (lo hi : Nat) :
    (occurrences x y lo hi 1 = [] ∧ ∀ i, lo ≤ i → ¬ At x y hi i) ∨ ∃ i r, occurrences x y lo hi 1 = i :: r ∧ lo ≤ i ∧ At x y hi i ∧ ∀ k, lo ≤ k → k < i → ¬ At x y hi k := by
  rw [occ_eq]
  rcases occ_first x y hi 1 (by decide) (List.range' lo (hi + 1 - lo)) lo (fun i hi => by have := List.mem_range'_1.mp hi; omega) with ⟨h0, hn⟩ | ⟨pre, a, post, e, h0, ha, hn⟩
  · exact .inl ⟨by rw [h0], fun i hlo hi => hn i (by have := hi.1; rw [List.mem_range'_1]; omega) hi⟩
  · have hs := range'_split_from e
    refine .inr ⟨a, ((forIn (List.range' lo (hi + 1 - lo)) ((#[] : Array Nat), lo) (occBody x y hi 1)).run.fst.toList).tail, ?_, hs.1, ha, fun k hk0 hk => hn k (hs.2 k hk0 hk)⟩
    generalize (forIn (List.range' lo (hi + 1 - lo)) ((#[] : Array Nat), lo) (occBody x y hi 1)).run.fst = arr at h0
    have h1 : arr.toList[0]? = some a := by simpa using h0
    cases hL : arr.toList with
    | nil => rw [hL] at h1; cases h1
    | cons b r => rw [hL] at h1; cases h1; rfl
theorem find4_one (l : List Nat) (c p n : Nat) (hp : p ≤ l.length) : Txt.findIn (S l) (S [c]) (p : Int) ((p + n : Nat) : Int) = (match ((l.drop p).take n).findIdx? (· == c) with | some k => ((p + k : Nat) : Int) | none => -1) := by
  unfold Txt.findIn
  rw [fromIx, toIx, S_len]
  have one : ∀ i, p ≤ i → (At (S l) (S [c]) (min (p + n) l.length) i ↔ ((l.drop p).take n)[i - p]? = some c) := by
    intro i hpi
    unfold At
    rw [S_len, subAt_eq, S_len]
    simp only [SX.S, List.length_singleton]
    rw [List.getElem?_take, List.getElem?_drop]
    constructor
    · rintro ⟨h1, h2⟩
      have hi : i < l.length := by omega
      rw [if_pos (by omega), show p + (i - p) = i by omega, List.getElem?_eq_getElem hi]
      have h3 : List.take 1 (List.drop i l) = [c] := by simpa using h2
      rw [List.drop_eq_getElem_cons hi] at h3
      exact congrArg some (List.cons.inj h3).1
    · intro h
      by_cases hn : i - p < n
      · rw [if_pos hn, show p + (i - p) = i by omega] at h
        obtain ⟨hi, e⟩ := List.getElem?_eq_some_iff.mp h
        refine ⟨by omega, ?_⟩
        have h3 : List.take 1 (List.drop i l) = [c] := by rw [List.drop_eq_getElem_cons hi, e]; rfl
        simpa using h3
      · rw [if_neg hn] at h
        cases h
  rcases occ_in (S l) (S [c]) p (min (p + n) l.length) with ⟨h0, hn⟩ | ⟨i, r, h0, hi, ha, hn⟩
  · rw [h0]
    have : ((l.drop p).take n).findIdx? (· == c) = none := by
      rw [List.findIdx?_eq_none_iff]
      intro x hx
      obtain ⟨k, hk, e⟩ := List.getElem_of_mem hx
      cases q : x == c with
      | false => rfl
      | true =>
        refine absurd ((one (p + k) (by omega)).mpr ?_) (hn (p + k) (by omega))
        rw [show p + k - p = k by omega, List.getElem?_eq_getElem hk, e, eq_of_beq q]
    rw [this]
  · rw [h0]
    have hk : ((l.drop p).take n).findIdx? (· == c) = some (i - p) := by
      rw [List.findIdx?_eq_some_iff_getElem]
      obtain ⟨hl, e⟩ := List.getElem?_eq_some_iff.mp ((one i hi).mp ha)
      refine ⟨hl, by simp [e], fun j hj => ?_⟩
      have := hn (p + j) (by omega) (by omega)
      rw [one _ (by omega), show p + j - p = j by omega, List.getElem?_eq_getElem (by omega)] at this
      intro q
      exact this (congrArg some (eq_of_beq (by simpa using q)))
    rw [hk]
    show (i : Int) = ((p + (i - p) : Nat) : Int)
    omega
theorem find4_some {l : List Nat} {c p n k : Nat} (hp : p ≤ l.length) (h : ((l.drop p).take n).findIdx? (· == c) = some k) : Txt.findIn (S l) (S [c]) (p : Int) ((p + n : Nat) : Int) = ((p + k : Nat) : Int) := by rw [find4_one l c p n hp, h]
theorem find4_none {l : List Nat} {c p n : Nat} (hp : p ≤ l.length) (h : ((l.drop p).take n).findIdx? (· == c) = none) : Txt.findIn (S l) (S [c]) (p : Int) ((p + n : Nat) : Int) = -1 := by rw [find4_one l c p n hp, h]
theorem starts_one (l : List Nat) (c : Nat) : Txt.startswith (S l) (S [c]) = decide (l.head? = some c) := by
  have h := starts3 l [c] 0
  have e : Txt.startswith3 (S l) (S [c]) ((0 : Nat) : Int) = Txt.startswith (S l) (S [c]) := by
    unfold Txt.startswith3 Txt.startswith
    rw [fromIx]
  rw [← e, h]
  cases l with
  | nil => simp
  | cons a r => simp
section
variable {X : Cx}
/-- x is True, x is False -/
def rIsT : R2 := fun x y H Q => ∃ b, y = .bl b ∧ Q (.bl (decide (x = .bl b))) H
theorem op_isT : OpR X (compareOp .Is) rIsT := by
  intro pins s σ H x y v u Q I rx ry h
  obtain ⟨b, rfl, q⟩ := h
  cases (show u = Value.bool b from ry)
  have e : (v == Value.bool b) = decide (x = V.bl b) := by
    cases x with
    | bl a => cases rx; cases a <;> cases b <;> rfl
    | non => cases rx; rfl
    | ref a => cases rx; rfl
    | ty n => cases rx; rfl
    | int i => obtain ⟨t, rfl⟩ := rx; rfl
    | str i => obtain ⟨t, rfl⟩ := rx; rfl
    | byt i => obtain ⟨t, rfl⟩ := rx; rfl
    | flt i => obtain ⟨t, rfl⟩ := rx; rfl
  by_cases c : x = V.bl b
  · subst c
    cases (show v = Value.bool b from rx)
    exact wpAny_is_self rfl ⟨.bl true, H, I, rfl, by simpa using q⟩
  · rw [decide_eq_false c] at e
    rw [decide_eq_false c] at q
    have pl : plainIs v (Value.bool b) = true := by
      cases x with
      | bl a => cases rx; rfl
      | non => cases rx; rfl
      | ref a => cases rx; rfl
      | ty n => cases rx; rfl
      | int i => obtain ⟨t, rfl⟩ := rx; rfl
      | str i => obtain ⟨t, rfl⟩ := rx; rfl
      | byt i => obtain ⟨t, rfl⟩ := rx; rfl
      | flt i => obtain ⟨t, rfl⟩ := rx; rfl
    exact wpAny_is_other pl (fun z => by rw [z] at e; simp at e) ⟨.bl false, H, I, rfl, q⟩
/-- == and != of data, one of the two not deep -/
def rEqC (K : PySem.W.Frag) : R2 := fun x y H Q => ∃ d e, Dp K H x d ∧ Dp K H y e ∧ d.canLay0 = true ∧ e.canLay0 = true ∧ min d.depth e.depth ≤ 64 ∧ Q (.bl (PyData.eqv d e)) H
def rNeC (K : PySem.W.Frag) : R2 := fun x y H Q => ∃ d e, Dp K H x d ∧ Dp K H y e ∧ d.canLay0 = true ∧ e.canLay0 = true ∧ min d.depth e.depth ≤ 64 ∧ Q (.bl (!PyData.eqv d e)) H
theorem op_eqC (hu : X.A.units + 64 < cLine) : OpR X (compareOp .Eq) (rEqC X.K) := by
  intro pins s σ H x y v u Q I rx ry h
  obtain ⟨d, e, hd, he, sd, se, hm, q⟩ := h
  obtain ⟨as, r1⟩ := Dp.reads I d x v hd rx
  obtain ⟨bs, r2⟩ := Dp.reads I e y u he ry
  exact SeqAt.compareEq_reads r1 r2 sd se (by omega) (fin_bl I q rfl)
theorem op_neC (hu : X.A.units + 64 < cLine) : OpR X (compareOp .NotEq) (rNeC X.K) := by
  intro pins s σ H x y v u Q I rx ry h
  obtain ⟨d, e, hd, he, sd, se, hm, q⟩ := h
  obtain ⟨as, r1⟩ := Dp.reads I d x v hd rx
  obtain ⟨bs, r2⟩ := Dp.reads I e y u he ry
  exact SeqAt.compareNe_reads r1 r2 sd se (by omega) (fin_bl I q rfl)
end
end Ftx
end

section
-- part K07P
set_option Elab.async false
set_option linter.all false
set_option maxRecDepth 100000
set_option maxHeartbeats 2000000
/-! K07P: the text of a tree, and a tree from a text -/
namespace M7
open PySem PySem.Spec PyProof.Rows L2 Fw
open SX (S_len S_inj S_cat)
open TL (numL numL_digits numL_ne numL_val numL_free)
/-- a whole number's signs -/
def intL (i : Int) : List Nat := if i < 0 then 45 :: numL i.natAbs else numL i.natAbs
mutual
def tx : PyData → List Nat
  | .none => [110]
  | .bool b => if b = true then [116] else [102]
  | .str x => numL x.cps.toList.length ++ 58 :: x.cps.toList
  | .tuple ds => 40 :: (txs ds ++ [41])
  | .int i => 35 :: (intL i ++ [59])
  | .list _ => []
  | .dict _ => []
def txs : List PyData → List Nat
  | [] => []
  | d :: ds => tx d ++ txs ds
end
/-- a tree of less than b open at once -/
def OkB : Nat → PyData → Prop
  | 0, _ => False
  | _ + 1, .none => True
  | _ + 1, .bool _ => True
  | _ + 1, .str x => (numL x.cps.toList.length).length ≤ 30
  | _ + 1, .int i => (intL i).length ≤ 30
  | b + 1, .tuple ds => ∀ d ∈ ds, OkB b d
  | _ + 1, .list _ => False
  | _ + 1, .dict _ => False
theorem OkB.up : ∀ {b : Nat} {d : PyData}, OkB b d → OkB (b + 1) d
  | 0, _, h => h.elim
  | _ + 1, .none, _ => trivial
  | _ + 1, .bool _, _ => trivial
  | _ + 1, .str _, h => h
  | _ + 1, .int _, h => h
  | b + 1, .tuple ds, h => fun d hd => OkB.up (h d hd)
  | _ + 1, .list _, h => h.elim
  | _ + 1, .dict _, h => h.elim
theorem OkB.le {b c : Nat} {d : PyData} (h : OkB b d) (hc : b ≤ c) : OkB c d := by
  induction hc with
  | refl => exact h
  | step _ ih => exact ih.up
/-! ### numbers -/
def isD (c : Nat) : Bool := decide (48 ≤ c) && decide (c ≤ 57)
def digs (w : List Nat) : List Nat := if w.head? = some 45 then w.tail else w
def valI (w : List Nat) : Int := if w.head? = some 45 then -((NumText.digitsVal w.tail : Nat) : Int) else ((NumText.digitsVal w : Nat) : Int)
def numB (e : Nat) (r : List Nat) : Option (Int × List Nat) :=
  match (r.take 31).findIdx? (· == e) with
  | none => none
  | some k => if digs (r.take k) = [] ∨ (digs (r.take k)).all isD = false then none else some (valI (r.take k), r.drop (k + 1))
def ctB (r : List Nat) : Option (List Nat × List Nat) :=
  match numB 58 r with
  | none => none
  | some (n, r') => if n < 0 ∨ (r'.length : Int) < n then none else some (r'.take n.toNat, r'.drop n.toNat)
def its (it : List Nat → Option (PyData × List Nat)) : Nat → List Nat → Option (List PyData × List Nat)
  | 0, _ => none
  | _ + 1, [] => none
  | f + 1, c :: r => if c = 41 then some ([], r) else match it (c :: r) with
    | none => none
    | some (d, r') => match its it f r' with
      | none => none
      | some (ds, r'') => some (d :: ds, r'')
def item : Nat → List Nat → Option (PyData × List Nat)
  | 0, _ => none
  | _ + 1, [] => none
  | b + 1, c :: r => if c = 110 then some (.none, r) else if c = 116 then some (.bool true, r) else if c = 102 then some (.bool false, r)
    else if c = 40 then (its (item b) (r.length + 1) r).map fun p => (.tuple p.1, p.2)
    else if c = 35 then (numB 59 r).map fun p => (.int p.1, p.2)
    else (ctB (c :: r)).map fun p => (.str (S p.1), p.2)
/-! ### each number's signs are read back -/
theorem intL_last (i : Int) (e : Nat) (he : e ≠ 45) (h : e < 48 ∨ 57 < e) : e ∉ intL i := by
  unfold intL
  split
  · intro z
    rcases List.mem_cons.mp z with z | z
    · exact he z
    · exact numL_free h z
  · exact numL_free h
theorem numL_head (n : Nat) : (numL n).head? ≠ some 45 := fun z => by
  cases q : numL n with
  | nil => rw [q] at z; cases z
  | cons a r =>
    rw [q] at z
    cases z
    have := numL_digits n 45 (by rw [q]; exact List.mem_cons_self)
    omega
theorem digs_int (i : Int) : digs (intL i) = numL i.natAbs := by
  unfold digs intL
  split
  · rfl
  · exact if_neg (numL_head _)
theorem val_int (i : Int) : valI (intL i) = i := by
  unfold valI intL
  by_cases h : i < 0
  · rw [if_pos h]
    show -((NumText.digitsVal (numL i.natAbs) : Nat) : Int) = i
    rw [numL_val]
    omega
  · rw [if_neg h, if_neg (numL_head _), numL_val]
    omega
theorem all_num (n : Nat) : (numL n).all isD = true := List.all_eq_true.mpr fun c hc => by
  have := numL_digits n c hc
  unfold isD
  rw [decide_eq_true this.1, decide_eq_true this.2]
  rfl
theorem idx_app {w r : List Nat} {e : Nat} (hw : e ∉ w) (hl : w.length ≤ 30) : ((w ++ e :: r).take 31).findIdx? (· == e) = some w.length := by
  rw [List.findIdx?_eq_some_iff_getElem]
  have h1 : ((w ++ e :: r).take 31)[w.length]? = some e := by
    rw [List.getElem?_take, if_pos (by omega), List.getElem?_append_right (Nat.le_refl _)]
    simp
  obtain ⟨h2, h3⟩ := List.getElem?_eq_some_iff.mp h1
  refine ⟨h2, by simp [h3], fun j hj => ?_⟩
  have h4 : ((w ++ e :: r).take 31)[j]? = some w[j] := by
    rw [List.getElem?_take, if_pos (by omega), List.getElem?_append_left hj, List.getElem?_eq_getElem hj]
  obtain ⟨h5, h6⟩ := List.getElem?_eq_some_iff.mp h4
  intro q
  have q2 : w[j] = e := by rw [← h6]; exact eq_of_beq (by simpa using q)
  exact hw (q2 ▸ List.getElem_mem hj)
theorem numB_int (i : Int) (e : Nat) (r : List Nat) (he : e = 59 ∨ e = 58) (hl : (intL i).length ≤ 30) : numB e (intL i ++ e :: r) = some (i, r) := by
  unfold numB
  rw [idx_app (intL_last i e (by omega) (by omega)) hl]
  show (if digs ((intL i ++ e :: r).take (intL i).length) = [] ∨ _ then _ else _) = _
  rw [List.take_left', digs_int, if_neg, val_int]
  · rw [show (intL i ++ e :: r).drop ((intL i).length + 1) = r from by rw [← List.drop_drop, List.drop_left']; rfl; rfl]
  · rintro (h | h)
    · exact numL_ne _ h
    · rw [all_num] at h; cases h
  · rfl
theorem numB_nat (n : Nat) (r : List Nat) (hl : (numL n).length ≤ 30) : numB 58 (numL n ++ 58 :: r) = some ((n : Int), r) := by
  have h := numB_int (n : Int) 58 r (.inr rfl) (by unfold intL; rw [if_neg (by omega)]; exact hl)
  unfold intL at h
  rw [if_neg (by omega)] at h
  exact h
theorem ctB_str (l r : List Nat) (hl : (numL l.length).length ≤ 30) : ctB (numL l.length ++ 58 :: (l ++ r)) = some (l, r) := by
  unfold ctB
  rw [numB_nat _ _ hl]
  show (if _ then _ else _) = _
  rw [if_neg (by rw [List.length_append]; omega), Int.toNat_natCast, List.take_left' rfl, List.drop_left' rfl]
theorem num_cons (n : Nat) : ∃ c r, numL n = c :: r ∧ 48 ≤ c ∧ c ≤ 57 := by
  cases q : numL n with
  | nil => exact absurd q (numL_ne n)
  | cons c r =>
    have := numL_digits n c (by rw [q]; exact List.mem_cons_self)
    exact ⟨c, r, rfl, this⟩
/-- a tree's text begins with another sign than a closed bracket -/
theorem tx_head {b : Nat} {d : PyData} (h : OkB b d) : ∃ c r, tx d = c :: r ∧ c ≠ 41 := by
  cases b with
  | zero => exact h.elim
  | succ b =>
    cases d with
    | none => exact ⟨110, [], by rw [tx], by decide⟩
    | bool k => cases k with
      | true => exact ⟨116, [], by simp [tx], by decide⟩
      | false => exact ⟨102, [], by simp [tx], by decide⟩
    | str x =>
      obtain ⟨c, r, e, h1, h2⟩ := num_cons x.cps.toList.length
      exact ⟨c, r ++ 58 :: x.cps.toList, by rw [tx, e]; rfl, by omega⟩
    | int i => exact ⟨35, _, by rw [tx], by decide⟩
    | tuple ds => exact ⟨40, _, by rw [tx], by decide⟩
    | list _ => exact h.elim
    | dict _ => exact h.elim
theorem its_back {it : List Nat → Option (PyData × List Nat)} : ∀ (ds : List PyData) (f : Nat) (r : List Nat), (∀ d ∈ ds, (∃ c q, tx d = c :: q ∧ c ≠ 41) ∧ ∀ r, it (tx d ++ r) = some (d, r)) → (txs ds).length < f → its it f (txs ds ++ 41 :: r) = some (ds, r)
  | [], 0, _, _, h => by omega
  | [], f + 1, r, _, _ => by rw [txs]; rfl
  | d :: ds, 0, _, _, h => by omega
  | d :: ds, f + 1, r, H, h => by
    obtain ⟨⟨c, q, e, hc⟩, hi⟩ := H d List.mem_cons_self
    rw [txs, List.append_assoc]
    have hh := hi (txs ds ++ 41 :: r)
    rw [txs, List.length_append] at h
    rw [e] at hh h ⊢
    rw [List.cons_append] at hh ⊢
    show (if c = 41 then _ else _) = _
    rw [if_neg hc, hh]
    show (match its it f (txs ds ++ 41 :: r) with | none => none | some (ds', r'') => some (d :: ds', r'')) = _
    rw [its_back ds f r (fun d hd => H d (List.mem_cons_of_mem _ hd)) (by simp only [List.length_cons] at h; omega)]
theorem item_back : ∀ (b : Nat) (d : PyData) (r : List Nat), OkB b d → item b (tx d ++ r) = some (d, r)
  | 0, _, _, h => h.elim
  | b + 1, .none, r, _ => by rw [tx]; rfl
  | b + 1, .bool true, r, _ => by rw [tx]; rfl
  | b + 1, .bool false, r, _ => by rw [tx]; rfl
  | b + 1, .str x, r, h => by
    obtain ⟨c, q, e, h1, h2⟩ := num_cons x.cps.toList.length
    have hc := ctB_str x.cps.toList r h
    rw [tx, List.append_assoc, List.cons_append]
    rw [e, List.cons_append] at hc ⊢
    show (if c = 110 then _ else _) = _
    rw [if_neg (by omega), if_neg (by omega), if_neg (by omega), if_neg (by omega), if_neg (by omega), hc]
    show some (PyData.str (S x.cps.toList), r) = _
    rw [show S x.cps.toList = x from SX.S_tl x]
  | b + 1, .int i, r, h => by
    rw [tx, List.cons_append, List.append_assoc]
    show (numB 59 (intL i ++ 59 :: r)).map _ = _
    rw [numB_int i 59 r (.inl rfl) h]
    rfl
  | b + 1, .tuple ds, r, h => by
    rw [tx, List.cons_append, List.append_assoc]
    show (its (item b) ((txs ds ++ 41 :: r).length + 1) (txs ds ++ 41 :: r)).map _ = _
    rw [its_back ds _ r (fun d hd => ⟨tx_head (h d hd), fun r => item_back b d r (h d hd)⟩) (by simp only [List.length_append]; omega)]
    rfl
  | b + 1, .list _, _, h => h.elim
  | b + 1, .dict _, _, h => h.elim
/-! ### what is read is a tree, and no longer than its text -/
theorem digits_lt {w : List Nat} (ha : w.all isD = true) : NumText.digitsVal w < 10 ^ w.length := by
  have key : ∀ (w : List Nat) (a k : Nat), w.all isD = true → a < 10 ^ k → w.foldl (fun acc c => acc * 10 + (c - 48)) a < 10 ^ (k + w.length) := by
    intro w
    induction w with
    | nil => intro a k _ h; exact h
    | cons c w ih =>
      intro a k ha h
      rw [List.all_cons, Bool.and_eq_true] at ha
      have hc : c ≤ 57 := by
        have := ha.1
        unfold isD at this
        rw [Bool.and_eq_true] at this
        exact of_decide_eq_true this.2
      rw [List.foldl_cons, List.length_cons, show k + (w.length + 1) = (k + 1) + w.length by omega]
      refine ih _ (k + 1) ha.2 ?_
      rw [Nat.pow_succ]
      omega
  have h := key w 0 0 ha (by decide)
  rwa [Nat.zero_add] at h
theorem digits_len {w : List Nat} (hw : w ≠ []) (ha : w.all isD = true) : (numL (NumText.digitsVal w)).length ≤ w.length := TL.numL_len (List.length_pos_iff.mpr hw) (digits_lt ha)
theorem num_lt (n : Nat) : n < 10 ^ (numL n).length := by
  have h := digits_lt (all_num n)
  rwa [numL_val] at h
theorem int_lt {i : Int} (h : (intL i).length ≤ 30) : i.natAbs < 10 ^ 30 := by
  have h1 := num_lt i.natAbs
  have h2 : (numL i.natAbs).length ≤ 30 := by
    unfold intL at h
    split at h
    · rw [List.length_cons] at h; omega
    · exact h
  exact Nat.lt_of_lt_of_le h1 (Nat.pow_le_pow_right (by decide) h2)
theorem val_len {w : List Nat} (h1 : digs w ≠ []) (h2 : (digs w).all isD = true) : (intL (valI w)).length ≤ w.length := by
  unfold digs at h1 h2
  unfold valI intL
  by_cases c : w.head? = some 45
  · rw [if_pos c] at h1 h2 ⊢
    have hw : w.length = w.tail.length + 1 := by
      cases w with
      | nil => cases c
      | cons a r => rfl
    have hl := digits_len h1 h2
    split
    · rw [List.length_cons, show (-((NumText.digitsVal w.tail : Nat) : Int)).natAbs = NumText.digitsVal w.tail by omega]; omega
    · rw [show (-((NumText.digitsVal w.tail : Nat) : Int)).natAbs = NumText.digitsVal w.tail by omega]; omega
  · rw [if_neg c] at h1 h2 ⊢
    rw [if_neg (by omega), Int.natAbs_natCast]
    exact digits_len h1 h2
theorem numB_some {e : Nat} {r r' : List Nat} {n : Int} (h : numB e r = some (n, r')) : ∃ k, k ≤ 30 ∧ k < r.length ∧ (r.take 31).findIdx? (· == e) = some k ∧ digs (r.take k) ≠ [] ∧ (digs (r.take k)).all isD = true ∧ n = valI (r.take k) ∧ r' = r.drop (k + 1) ∧ (intL n).length ≤ k := by
  unfold numB at h
  cases q : (r.take 31).findIdx? (· == e) with
  | none => rw [q] at h; cases h
  | some k =>
    rw [q] at h
    have hk : k < (r.take 31).length := (List.findIdx?_eq_some_iff_getElem.mp q).1
    rw [List.length_take] at hk
    by_cases c : digs (r.take k) = [] ∨ (digs (r.take k)).all isD = false
    · exact absurd (show (none : Option (Int × List Nat)) = some (n, r') by rw [← h]; exact (if_pos c).symm) (by intro z; cases z)
    · have h2 : some (valI (r.take k), r.drop (k + 1)) = some (n, r') := by rw [← h]; exact (if_neg c).symm
      cases h2
      have c1 : digs (r.take k) ≠ [] := fun z => c (.inl z)
      have c2 : (digs (r.take k)).all isD = true := by
        cases z : (digs (r.take k)).all isD with
        | true => rfl
        | false => exact absurd (.inr z) c
      refine ⟨k, by omega, by omega, rfl, c1, c2, rfl, rfl, ?_⟩
      have := val_len c1 c2
      rw [List.length_take] at this
      omega
/-- what an item read must be -/
def Rd (b : Nat) (r : List Nat) (o : Option (PyData × List Nat)) : Prop := ∀ d r', o = some (d, r') → OkB b d ∧ ∃ k, 0 < k ∧ k ≤ r.length ∧ r' = r.drop k ∧ (tx d).length ≤ k
theorem its_ok {b : Nat} {it : List Nat → Option (PyData × List Nat)} (H : ∀ r, Rd b r (it r)) : ∀ (f : Nat) (r r' : List Nat) (ds : List PyData), its it f r = some (ds, r') → (∀ d ∈ ds, OkB b d) ∧ ∃ k, 0 < k ∧ k ≤ r.length ∧ r' = r.drop k ∧ (txs ds).length + 1 ≤ k
  | 0, _, _, _, h => by cases h
  | f + 1, [], _, _, h => by cases h
  | f + 1, c :: r, r', ds, h => by
    unfold its at h
    by_cases hc : c = 41
    · rw [if_pos hc] at h
      cases h
      exact ⟨fun d hd => (nomatch hd), 1, by omega, by rw [List.length_cons]; omega, rfl, by rw [txs]; decide⟩
    · rw [if_neg hc] at h
      cases q : it (c :: r) with
      | none => rw [q] at h; cases h
      | some p =>
        obtain ⟨d, r1⟩ := p
        rw [q] at h
        obtain ⟨hd, k, h0, h1, rfl, h2⟩ := H _ d r1 q
        cases q2 : its it f ((c :: r).drop k) with
        | none => rw [show (match some (d, (c :: r).drop k) with | none => none | some (d, r') => match its it f r' with | none => none | some (ds, r'') => some (d :: ds, r'')) = none by show (match its it f ((c :: r).drop k) with | none => none | some (ds, r'') => some (d :: ds, r'')) = none; rw [q2]] at h; cases h
        | some p2 =>
          obtain ⟨ds2, r2⟩ := p2
          have h3 : some (d :: ds2, r2) = some (ds, r') := by rw [← h]; show _ = (match its it f ((c :: r).drop k) with | none => none | some (ds, r'') => some (d :: ds, r'')); rw [q2]
          cases h3
          obtain ⟨hds, k2, g0, g1, rfl, g2⟩ := its_ok H f _ _ _ q2
          rw [List.length_drop] at g1
          refine ⟨fun e he => ?_, k + k2, by omega, by omega, by rw [List.drop_drop], by rw [txs, List.length_append]; omega⟩
          rcases List.mem_cons.mp he with z | z
          · rw [z]; exact hd
          · exact hds e z
theorem item_ok : ∀ (b : Nat) (r : List Nat), Rd b r (item b r)
  | 0, _ => fun _ _ h => by cases h
  | b + 1, [] => fun _ _ h => by cases h
  | b + 1, c :: r => fun d r' h => by
    unfold item at h
    have one : ∀ (e : PyData), OkB (b + 1) e → (tx e).length ≤ 1 → some (e, r) = some (d, r') → OkB (b + 1) d ∧ ∃ k, 0 < k ∧ k ≤ (c :: r).length ∧ r' = (c :: r).drop k ∧ (tx d).length ≤ k := fun e h1 h2 h3 => by
      cases h3
      exact ⟨h1, 1, by omega, by rw [List.length_cons]; omega, rfl, h2⟩
    by_cases c1 : c = 110
    · rw [if_pos c1] at h; exact one .none trivial (by rw [tx]; decide) h
    rw [if_neg c1] at h
    by_cases c2 : c = 116
    · rw [if_pos c2] at h; exact one (.bool true) trivial (by rw [tx]; decide) h
    rw [if_neg c2] at h
    by_cases c3 : c = 102
    · rw [if_pos c3] at h; exact one (.bool false) trivial (by rw [tx]; decide) h
    rw [if_neg c3] at h
    by_cases c4 : c = 40
    · rw [if_pos c4] at h
      obtain ⟨⟨ds, r1⟩, q, z⟩ := Option.map_eq_some_iff.mp h
      cases z
      obtain ⟨hds, k, h0, h1, rfl, h2⟩ := its_ok (item_ok b) _ _ _ _ q
      exact ⟨hds, k + 1, by omega, by rw [List.length_cons]; omega, rfl, by rw [tx, List.length_cons, List.length_append]; simp only [List.length_singleton]; omega⟩
    rw [if_neg c4] at h
    by_cases c5 : c = 35
    · rw [if_pos c5] at h
      obtain ⟨⟨n, r1⟩, q, z⟩ := Option.map_eq_some_iff.mp h
      cases z
      obtain ⟨k, h0, h1, _, _, _, _, rfl, h2⟩ := numB_some q
      exact ⟨Nat.le_trans h2 h0, k + 2, by omega, by rw [List.length_cons]; omega, rfl, by rw [tx, List.length_cons, List.length_append]; simp only [List.length_singleton]; omega⟩
    rw [if_neg c5] at h
    obtain ⟨⟨l, r1⟩, q, z⟩ := Option.map_eq_some_iff.mp h
    cases z
    unfold ctB at q
    cases q2 : numB 58 (c :: r) with
    | none => rw [q2] at q; cases q
    | some p =>
      obtain ⟨n, r2⟩ := p
      rw [q2] at q
      by_cases hn : n < 0 ∨ (r2.length : Int) < n
      · exact absurd (show (none : Option (List Nat × List Nat)) = some (l, r1) by rw [← q]; exact (if_pos hn).symm) (by intro z; cases z)
      · have q3 : some (r2.take n.toNat, r2.drop n.toNat) = some (l, r1) := by rw [← q]; exact (if_neg hn).symm
        cases q3
        obtain ⟨k, h0, h1, _, _, _, _, rfl, h2⟩ := numB_some q2
        have hl : ((c :: r).drop (k + 1)).length = (c :: r).length - (k + 1) := List.length_drop
        have e1 : ((List.take n.toNat ((c :: r).drop (k + 1)))).length = n.toNat := by rw [List.length_take]; omega
        have e2 : (numL n.toNat).length ≤ k := by
          unfold intL at h2
          rw [if_neg (by omega)] at h2
          rw [show n.toNat = n.natAbs by omega]
          exact h2
        refine ⟨?_, k + 1 + n.toNat, by omega, by omega, by rw [List.drop_drop], ?_⟩
        · show (numL (List.take n.toNat ((c :: r).drop (k + 1))).length).length ≤ 30
          rw [e1]
          omega
        · rw [tx, List.length_append, List.length_cons]
          show (numL (List.take n.toNat ((c :: r).drop (k + 1))).length).length + ((List.take n.toNat ((c :: r).drop (k + 1))).length + 1) ≤ _
          rw [e1]
          omega
/-! ### brackets in brackets -/
theorem deep_none : ∀ (b m : Nat) (r : List Nat), b < m → item b (List.replicate m 40 ++ r) = none
  | 0, _, _, _ => rfl
  | b + 1, 0, _, h => by omega
  | b + 1, m + 1, r, h => by
    rw [List.replicate_succ, List.cons_append]
    show (its (item b) _ (List.replicate m 40 ++ r)).map _ = none
    have hi := deep_none b m r (by omega)
    cases m with
    | zero => omega
    | succ m =>
      rw [List.replicate_succ, List.cons_append] at hi ⊢
      show (its (item b) (_ + 1) (40 :: (List.replicate m 40 ++ r))).map _ = none
      unfold its
      rw [if_neg (by decide), hi]
      rfl
def nest : Nat → PyData
  | 0 => .none
  | 1 => .tuple []
  | m + 2 => .tuple [nest (m + 1)]
theorem tx_nest : ∀ m, tx (nest (m + 1)) = List.replicate (m + 1) 40 ++ List.replicate (m + 1) 41
  | 0 => by rw [nest, tx, txs]; rfl
  | m + 1 => by
    rw [nest, tx, txs, txs, tx_nest m, List.append_nil, List.append_assoc, show ([41] : List Nat) = List.replicate 1 41 from rfl, List.replicate_append_replicate, ← List.cons_append, ← List.replicate_succ]
theorem ok_nest : ∀ m, OkB (m + 1) (nest (m + 1))
  | 0 => fun d hd => (nomatch hd)
  | m + 1 => fun d hd => by rw [List.mem_singleton.mp hd]; exact ok_nest m
/-- two trees of one text are one -/
theorem tx_inj {b : Nat} {d e : PyData} (hd : OkB b d) (he : OkB b e) (h : tx d = tx e) : d = e := by
  have h1 := item_back b d [] hd
  have h2 := item_back b e [] he
  rw [h, h2] at h1
  cases h1
  rfl
end M7
end

section
-- part Ftw
set_option Elab.async false
set_option linter.all false
set_option maxRecDepth 100000
set_option maxHeartbeats 2000000
/-! Ftw: readings for Ftx -/
namespace Ftw
open PySem PySem.Spec PyProof.Rows L2 Fw Ftx
open SX (S_len S_inj S_cat)
section
variable {K : PySem.W.Frag} {H : Hp} {Q : VK} {σ : L2.St} {i : Int} {x : Str} {a : Addr} {b : Bool}
theorem isT_no {v : V} (h : v ≠ .bl b) (q : Q (.bl false) H) : rIsT v (.bl b) H Q := ⟨b, rfl, by rw [decide_eq_false h]; exact q⟩
theorem w_isTI (q : Q (.bl false) H) : rIsT (.int i) (.bl b) H Q := isT_no (fun z => by cases z) q
theorem w_isTS (q : Q (.bl false) H) : rIsT (.str x) (.bl b) H Q := isT_no (fun z => by cases z) q
theorem w_isTR (q : Q (.bl false) H) : rIsT (.ref a) (.bl b) H Q := isT_no (fun z => by cases z) q
theorem w_isTN (q : Q (.bl false) H) : rIsT .non (.bl b) H Q := isT_no (fun z => by cases z) q
theorem w_isTtt (q : Q (.bl true) H) : rIsT (.bl b) (.bl b) H Q := ⟨b, rfl, by rw [decide_eq_true rfl]; exact q⟩
theorem w_isTft (q : Q (.bl false) H) : rIsT (.bl false) (.bl true) H Q := isT_no (fun z => by cases z) q
theorem w_isTtf (q : Q (.bl false) H) : rIsT (.bl true) (.bl false) H Q := isT_no (fun z => by cases z) q
theorem w_isNS (q : Q (.bl false) H) : rIsN (.str x) V.non H Q := Dq.w_isNb (decide_eq_false (fun z => by cases z)) q
theorem w_isNB (q : Q (.bl false) H) : rIsN (.bl b) V.non H Q := Dq.w_isNb (decide_eq_false (fun z => by cases z)) q
theorem ty_sqT {xs : List V} (h : SqT K H a xs) : TyX K H (.ref a) (.type "tuple") := by
  rcases h with (h | ⟨o, h⟩) | ⟨o, its, n, h1, h2, _⟩
  · exact .base (.tup h)
  · exact .fTuple h
  · exact .kTuple h1 h2
theorem w_isiRS {xs : List V} (h : SqT K H a xs) (q : Q (.bl false) H) : L2.rIsi K [.ref a, .ty "str"] H Q := ⟨_, _, _, _, _, rfl, .ty _, ty_sqT h, rfl, q⟩
theorem w_isiRT {xs : List V} (h : SqT K H a xs) (q : Q (.bl true) H) : L2.rIsi K [.ref a, .ty "tuple"] H Q := ⟨_, _, _, _, _, rfl, .ty _, ty_sqT h, rfl, q⟩
theorem w_isiRI {xs : List V} (h : SqT K H a xs) (q : Q (.bl false) H) : L2.rIsi K [.ref a, .ty "int"] H Q := ⟨_, _, _, _, _, rfl, .ty _, ty_sqT h, rfl, q⟩
theorem w_isiIT (q : Q (.bl false) H) : L2.rIsi K [.int i, .ty "tuple"] H Q := ⟨_, _, _, _, _, rfl, .ty _, .base (.int i), rfl, q⟩
theorem w_isiII (q : Q (.bl true) H) : L2.rIsi K [.int i, .ty "int"] H Q := ⟨_, _, _, _, _, rfl, .ty _, .base (.int i), rfl, q⟩
theorem ofString_app (a b : String) : Str.ofString (a ++ b) = Str.ofString a ++ Str.ofString b := by
  refine TL.ext_tl ?_
  rw [TL.tl_append, Str.ofString_eq_toList, Str.ofString_eq_toList, Str.ofString_eq_toList]
  simp [TL.tl, String.toList_append]
/-- str(a whole number) -/
theorem int_S (i : Int) : Str.ofString (toString i) = S (M7.intL i) := by
  unfold M7.intL
  split
  · rename_i h
    rw [PyProof.Rows.toString_neg h, show (0 - i : Int) = ((i.natAbs : Nat) : Int) by omega]
    have e : ∀ s : String, Str.ofString ("-" ++ s) = S [45] ++ Str.ofString s := fun s => by
      have h := ofString_app "-" s
      exact h
    rw [e, SX.num_S]
    exact S_cat [45] _
  · rw [show i = ((i.natAbs : Nat) : Int) by omega, SX.num_S, Int.natAbs_natCast]
theorem log_small {i : Int} (h : (M7.intL i).length ≤ 30) : i.natAbs.log2 < 1920 := by
  have h1 := M7.int_lt h
  exact Nat.lt_of_lt_of_le (PySem.Flt.log2_lt_of (k := 100) (by decide) (Nat.lt_of_lt_of_le h1 (by decide))) (by decide)
theorem w_strI (h : i.natAbs.log2 < 1920) (q : Q (.str (S (M7.intL i))) H) : (fun xs H Q => ∃ i, xs = [V.int i] ∧ i.natAbs.log2 < 1920 ∧ Q (.str (toString i)) H : List V → Hp → VK → Prop) [.int i] H Q := ⟨i, rfl, h, by
  rw [show ((toString i : String) : Str) = Str.ofString (toString i) from rfl, int_S]; exact q⟩
theorem w_strN {n : Nat} (h : n < 2 ^ 1000) (q : Q (.str (S (TL.numL n))) H) : (fun xs H Q => ∃ i, xs = [V.int i] ∧ i.natAbs.log2 < 1920 ∧ Q (.str (toString i)) H : List V → Hp → VK → Prop) [.int (n : Int)] H Q := ⟨n, rfl, by
  rw [Int.natAbs_natCast]
  exact Nat.lt_of_lt_of_le (PySem.Flt.log2_lt_of (k := 1000) (by decide) h) (by decide), by
  rw [show ((toString (n : Int) : String) : Str) = Str.ofString (toString (n : Int)) from rfl, SX.num_S]; exact q⟩
/-- ''.join of texts -/
theorem join_len (ls : List (List Nat)) : ((ls.map S).map (·.length)).sum + (ls.map S).length * (S []).length = ls.flatten.length := by
  rw [List.map_map, S_len, List.length_nil, Nat.mul_zero, Nat.add_zero, show ((fun x : Str => x.length) ∘ S) = (fun l : List Nat => l.length) from funext fun l => S_len l, ← List.length_flatten]
theorem join_eq (ls : List (List Nat)) : Txt.join (S []) (ls.map S) = S ls.flatten := by
  have e : ∀ ls : List (List Nat), TL.joinL [] ls = ls.flatten := by
    intro ls
    induction ls with
    | nil => rfl
    | cons a r ih =>
      cases r with
      | nil => simp [TL.joinL]
      | cons b r => rw [TL.joinL, ih]; simp
  rw [show S ([] : List Nat) = SX.S [] from rfl, SX.join_S, e]
theorem join_sq {p : Addr} {ls : List (List Nat)} (h : H p = some (.lst (ls.map fun l => V.str (S l)))) : SqL K H p ((ls.map S).map V.str) := SqL.of (by rw [List.map_map]; exact h)
theorem mul_eq (l : List Nat) (n : Nat) : Txt.mul (S l) (n : Int) = S (List.replicate n l).flatten := by
  have key : ∀ (k : Nat) (acc : Array Nat), (List.replicate k l.toArray).foldl (· ++ ·) acc = acc ++ (List.replicate k l).flatten.toArray := fun k => by
    induction k with
    | zero => intro acc; simp
    | succ k ih => intro acc; rw [List.replicate_succ, List.foldl_cons, ih, List.replicate_succ, List.flatten_cons]; simp
  unfold Txt.mul
  split
  · have : n = 0 := by omega
    subst this; rfl
  · split
    · rename_i h0 h
      rw [Bool.or_eq_true] at h
      rcases h with h | h
      · have : n = 1 := by have := eq_of_beq h; omega
        subst this; simp
      · have hl : l = [] := by have := eq_of_beq h; rw [S_len] at this; exact List.length_eq_zero_iff.mp this
        subst hl; simp
    · show (⟨(List.replicate n l.toArray).foldl (· ++ ·) #[]⟩ : Str) = _
      rw [key]
      simp [SX.S]
end
end Ftw
end

section
-- part Fge
set_option Elab.async false
set_option linter.all false
set_option maxRecDepth 100000
set_option maxHeartbeats 800000
/-! Fge: t >= u of tuples of ints; a def called with its defaults; a def called by a name that holds it -/
namespace Fge
open PySem PySem.Spec PyProof.Rows L2 Fw Gk
theorem lexGe (ns ms : List Int) : ∀ (k i : Nat), k = min ns.length ms.length - i → i ≤ min ns.length ms.length →
    Ob.lexAt (fun j => decide (ns.getD j 0 = ms.getD j 0)) (fun j => decide (ms.getD j 0 ≤ ns.getD j 0)) (decide (ns.length ≥ ms.length)) i k = !HT.lexLt (ns.drop i) (ms.drop i) := by
  intro k
  induction k with
  | zero =>
    intro i hk hi
    rw [Ob.lexAt_zero]
    by_cases h : ns.length < ms.length
    · have e1 : i = ns.length := by omega
      subst e1
      rw [List.drop_length, List.drop_eq_getElem_cons h, decide_eq_false (by omega)]
      rfl
    · have e1 : i = ms.length := by omega
      subst e1
      rw [List.drop_length, decide_eq_true (by omega)]
      cases ns.drop ms.length <;> rfl
  | succ k ih =>
    intro i hk hi
    have h1 : i < ns.length := by omega
    have h2 : i < ms.length := by omega
    rw [Ob.lexAt_succ, ih (i + 1) (by omega) (by omega), List.drop_eq_getElem_cons h1, List.drop_eq_getElem_cons h2]
    have g1 : ns.getD i 0 = ns[i] := by rw [List.getD_eq_getElem?_getD, List.getElem?_eq_getElem h1]; rfl
    have g2 : ms.getD i 0 = ms[i] := by rw [List.getD_eq_getElem?_getD, List.getElem?_eq_getElem h2]; rfl
    rw [g1, g2, HT.lexLt_cons]
    by_cases c : ns[i] = ms[i]
    · rw [if_pos (decide_eq_true c), if_pos c]
    · rw [if_neg (by simpa using c), if_neg c]
      by_cases d : ns[i] < ms[i]
      · rw [decide_eq_true d, decide_eq_false (by omega)]; rfl
      · rw [decide_eq_false d, decide_eq_true (by omega)]; rfl
def rGeT (K : PySem.W.Frag) : R2 := fun x y H Q => ∃ (a b : Addr) (ns ms : List Int), x = .ref a ∧ y = .ref b ∧ SqT K H a (ns.map V.int) ∧ SqT K H b (ms.map V.int) ∧ Q (.bl (!HT.lexLt ns ms)) H
theorem op_geT {X : Cx} (hu : X.A.units + 64 < cLine) : OpR X (compareOp .GtE) (rGeT X.K) := by
  intro pins s σ H x y v u Q I rx ry h
  obtain ⟨a, b, ns, ms, rfl, rfl, ha, hb, q⟩ := h
  cases rx
  cases ry
  obtain ⟨its, r1, p1, _⟩ := I.tuple ha
  obtain ⟨its2, r2, p2, _⟩ := I.tuple hb
  have i1 : IntsAre its ns := Vals.ints r1
  have i2 : IntsAre its2 ms := Vals.ints r2
  have e1 : its.toArray.size = ns.length := by rw [List.size_toArray]; exact i1.length
  have e2 : its2.toArray.size = ms.length := by rw [List.size_toArray]; exact i2.length
  have t1 : ∀ j (h1 : j < its.toArray.size), ∃ t, its.toArray[j] = .int (ns.getD j 0) t := fun j h1 => PyProof.Rows.IntsAre.int_at i1 _ _ (by simp at h1; simp [h1])
  have t2 : ∀ j (h1 : j < its2.toArray.size), ∃ t, its2.toArray[j] = .int (ms.getD j 0) t := fun j h1 => PyProof.Rows.IntsAre.int_at i2 _ _ (by simp at h1; simp [h1])
  have R := Ob.RcOp.tuples_ge (A := X.A) (s := s) (e := fun j => decide (ns.getD j 0 = ms.getD j 0)) (r := fun j => decide (ms.getD j 0 ≤ ns.getD j 0)) p1 p2 (by omega) (fun j h1 h2 => by
    obtain ⟨t, et⟩ := t1 j h1
    obtain ⟨t', et'⟩ := t2 j h2
    have z := SeqAt.EqAt.int_int (A := X.A.in1) (s := s) (ns.getD j 0) t (ms.getD j 0) t'
    rw [Bool.beq_eq_decide_eq] at z
    rw [et, et']
    exact z) (fun j h1 h2 _ => by
    obtain ⟨t, et⟩ := t1 j h1
    obtain ⟨t', et'⟩ := t2 j h2
    rw [et, et']
    exact Ob.RcOp.ge_int _ _ _ _)
  have L := lexGe ns ms _ 0 rfl (Nat.zero_le _)
  rw [Nat.sub_zero, List.drop_zero, List.drop_zero] at L
  rw [e1, e2, L] at R
  exact R X.prog X.w _ _ ⟨.bl (!HT.lexLt ns ms), H, I, rfl, q⟩
theorem or_op {X : Cx} {f : Value → Value → Sem Value} {r1 r2 : R2} (h1 : OpR X f r1) (h2 : OpR X f r2) : OpR X f (fun x y H Q => r1 x y H Q ∨ r2 x y H Q) := by
  intro pins s σ H x y v u Q I rx ry h
  rcases h with h | h
  · exact h1 pins s σ H x y v u Q I rx ry h
  · exact h2 pins s σ H x y v u Q I rx ry h
/-! ### a def called with its defaults -/
structure Cld (P : Program) (w : World) (K : PySem.W.Frag) (mg : Str → Option Value) (base : Heap) (k : Nat) (x : Str) (sp : Sp) (dvs : List V) : Prop where
  ex : ∃ (f : Addr) (fd : FuncData) (ps : List Str) (ds : List Value), FnOk P w K mg base (L2.CX P w) k f fd ps sp ∧ mg x = some (.ref f) ∧ PySem.W.keepIn K (.ref f) = true ∧ Binds K fd ps ds ∧ Vals dvs ds
def tCld (sp : Sp) (dvs : List V) (E : XK) (t : TA) : TE := fun σ H Q => t σ H fun vs H1 => sp (vs ++ dvs) H1 Q E
section
variable {X : Cx} {k j : Nat} {x : Str} {sp : Sp} {dvs : List V} {E : XK} {p pos : Pos} {e : Expr} {es : List Expr} {t : TA}
theorem pe_cld (c : Cld X.prog X.w X.K X.mg X.base k x sp dvs) (hr : Room j X.A) (hk : k ≤ j) (hg : Gl X x) (hx : Passes (L2.CX X.prog X.w) X E) (ha : PA X (e :: es) t)
    (hdb : (x == ("__debug__" : Str)) = false := by decide) (he : starEach (e :: es) X.env = (false, eval e X.env) :: starEach es X.env := by rfl) (hpl : (backTo pos (starEach es X.env)).any (·.1) = false := by rfl) :
    PE X (.Call (.Name x p) (e :: es) [] pos) (tCld sp dvs E t) := by
  obtain ⟨f, fd, ps, ds, F, hm, kp, b, d⟩ := c.ex
  exact ⟨fun pins s σ H Q I h => (pe_call F (hr.mono hk) hg hm kp b d hx ha hdb he hpl).run pins s σ H Q I h⟩
theorem w_cld {σ : L2.St} {H : Hp} {Q : VK} (h : t σ H fun vs H1 => sp (vs ++ dvs) H1 Q E) : tCld sp dvs E t σ H Q := h
end
section
variable {P : Program} {w : World} {K : PySem.W.Frag} {mg : Str → Option Value} {base : Heap} {x : Str} {st : Stmt} {dvs : List V}
/-- a def with its one default left out -/
theorem cld_mk {N ps : List Str} {k : Nat} {sp : Sp} (n j : Nat) (F : ∃ (f : Addr) (fd : FuncData), FunD K x x (defArgs st) (defBody st) (defScope st) dvs [] f fd ∧ mg x = some (.ref f)) (S : FnScope N ps (defScope st)) (hd : dvs ≠ []) (hn : n + (dvs.length - j) = ps.length)
    (b : ∀ (T : Addr) (kV doc pm : Value) (an : Option Addr) (cdv ct : Value) (us its : List Value), us.length = n → its.length = dvs.length →
      ∃ k, bindArgs (PySem.W.fnOf x x (defArgs st) (defBody st) (defScope st) (.ref T) kV doc pm an cdv ct) ⟨us, []⟩ = seqItems? (.ref T) >>= k ∧ k (some its.toArray) = pure (ps.zip (us ++ its.drop j)))
    (len : ∀ vs H Q E, sp vs H Q E → vs.length = ps.length)
    (hbody : ∀ (f : Addr) (cdv : Value) (A : Around) (outer : List Env) (s : Shared) (H : Hp) (vs : List V) (Q : VK) (E : XK), Room k (A.deeper (envOfC x (defScope st) s.heap.objs.size f cdv)) → sp vs H Q E →
      ∃ t, PSs (cxOf (L2.CX P w) P w K mg base N x (defScope st) f cdv A outer s H E) (defBody st) t ∧ t { nx := fun _ H' => Q .non H', rt := Q } (start N vs) H) : Cld P w K mg base (k + 1) x sp (dvs.drop j) := by
  obtain ⟨f, fd, F, m⟩ := F
  obtain ⟨ds, h1, h2⟩ := F.binds1 n j hd hn b
  exact ⟨f, fd, ps, ds, F.ok S len (hbody f), m, F.kp, h2, h1⟩
end
/-! ### a name that holds one of several defs -/
def tClF (i : Nat) (S : Addr → Sp → Prop) (E : XK) (t : TA) : TE := fun σ H Q => ∃ f sp, σ[i]? = some (some (.ref f)) ∧ S f sp ∧ t σ H fun vs H1 => sp vs H1 Q E
structure ClF (P : Program) (w : World) (K : PySem.W.Frag) (mg : Str → Option Value) (base : Heap) (k : Nat) (S : Addr → Sp → Prop) : Prop where
  of : ∀ f sp, S f sp → ∃ (fd : FuncData) (ps : List Str), FnOk P w K mg base (L2.CX P w) k f fd ps sp ∧ PySem.W.keepIn K (.ref f) = true ∧ Binds K fd ps []
section
variable {X : Cx} {k j i : Nat} {x : Str} {S : Addr → Sp → Prop} {E : XK} {p pos : Pos} {e : Expr} {es : List Expr} {t : TA}
theorem pe_clF (c : ClF X.prog X.w X.K X.mg X.base k S) (hr : Room j X.A) (hk : k ≤ j) (hN : X.N[i]? = some x) (hv : Vis X.env.scope x) (hx : Passes (L2.CX X.prog X.w) X E) (ha : PA X (e :: es) t)
    (hdb : (x == ("__debug__" : Str)) = false := by decide) (hcd : (x == ("__classdict__" : Str)) = false := by decide)
    (he : starEach (e :: es) X.env = (false, eval e X.env) :: starEach es X.env := by rfl) (hpl : (backTo pos (starEach es X.env)).any (·.1) = false := by rfl) : PE X (.Call (.Name x p) (e :: es) [] pos) (tClF i S E t) := by
  refine ⟨fun pins s σ H Q I h => ?_⟩
  obtain ⟨f, sp, hs, hS, ht⟩ := h
  obtain ⟨fd, ps, F, kp, b⟩ := c.of f sp hS
  refine (pe_callL (i := i) (f := f) (sp := sp) (dvs := []) (E := E) F (hr.mono hk) hN hv kp b .nil hx ha hdb hcd he hpl).run pins s σ H Q I ⟨hs, ?_⟩
  have e0 : (fun (vs : List V) (H1 : Hp) => sp (vs ++ []) H1 Q E) = fun vs H1 => sp vs H1 Q E := by
    funext vs H1
    rw [List.append_nil]
  show t σ H (fun vs H1 => sp (vs ++ []) H1 Q E)
  rw [e0]
  exact ht
end
end Fge
end

section
-- part Fsc
set_option Elab.async false
set_option linter.all false
set_option maxRecDepth 100000
set_option maxHeartbeats 2000000
/-! Fsc: a set comprehension, whatever its elements are -/
namespace Fsc
open PySem PySem.Spec PyProof.Rows L2 Fw Gk
/-- what a new set is, and how one more element is put in -/
structure Col (X : Cx) (new : Addr → HO) (add : V → Addr → Hp → (Hp → Prop) → Prop) : Prop where
  fresh : ∀ (H : Hp) (h : Heap), ObjOk X.prog X.w H (h.push { cls := .type "set", dict := none, data := .set #[] 0 (.fresh 0 0 (!X.w.params.followText "set-order")) }) h.objs.size (new h.objs.size)
  put : ∀ {pins : List (Addr × Obj)} {σ : L2.St} {H : Hp} {s : Shared} {y : V} {u : Value} {D : Addr} {N : Hp → Prop} {E : Value → Shared → Prop}, Inv X pins σ H s → RelV y u → add y D H N →
    wpAny (model X.prog X.w) X.A (call (.builtin "set.add") [.ref D, u]) (fun _ s' => ∃ H', Inv X pins σ H' s' ∧ N H') E s
def tSC (new : Addr → HO) (add : V → Addr → Hp → (Hp → Prop) → Prop) (wi : TI) (g : TG) (tt : TT) (te : TE) (vs : List Nat) : TE := fun σ H Q => wi σ H fun J H1 => ∀ D, H1 D = none → ∃ W : Nat → Nat → Hp → Prop, (∃ m, W 0 m (upd H1 D (new D))) ∧ ∀ i m H, W i m H →
  (J.stop i H ∧ Q (.ref D) H) ∨ (J.go i H ∧ ∃ N : Hp → Prop, (∀ H', N H' → ∃ m', m' < m ∧ W (i + 1) m' H') ∧ ∀ x H', J.yld i H x H' → g x (wipe σ vs) H' fun σ2 H2 => wipe σ2 vs = wipe σ vs ∧ tt σ2 H2 fun b H3 =>
    if b = true then te σ2 H3 fun y H4 => add y D H4 N else N H3)
section
variable {X : Cx} {new : Addr → HO} {add : V → Addr → Hp → (Hp → Prop) → Prop} {elt tg iter : Expr} {ifs : List Expr} {scope : Scope} {own : List (PySem.Str × Nat)} {pos : Pos} {wi : TI} {g : TG} {tt : TT} {te : TE}
theorem pe_SC (col : ∀ (s : Shared) (H : Hp) (C : Addr) (cl : List (PySem.Str × Addr)) (fp : List Addr), Col (X.blk s H scope (compEnvC scope cl C X.env) fp) new add) (calm : X.calm = true) (nd : X.N.Nodup) (hi : PI X tg iter wi) (ok : BlkOk X.N X.env.scope scope own)
    (hg : ∀ (s : Shared) (H : Hp) (C : Addr) (cl : List (PySem.Str × Addr)) (fp : List Addr), PG (X.blk s H scope (compEnvC scope cl C X.env) fp) tg g) (ht : ∀ (s : Shared) (H : Hp) (C : Addr) (cl : List (PySem.Str × Addr)) (fp : List Addr), PTs (X.blk s H scope (compEnvC scope cl C X.env) fp) ifs tt)
    (he : ∀ (s : Shared) (H : Hp) (C : Addr) (cl : List (PySem.Str × Addr)) (fp : List Addr), PE (X.blk s H scope (compEnvC scope cl C X.env) fp) elt te) (hs : ∀ x, foldedSetIterable iter X.env x = pure x := by intro _; rfl) :
    PE X (.SetComp elt [⟨tg, iter, ifs, 0⟩] scope pos) (tSC new add wi g tt te (own.map (·.2))) := by
  refine ⟨fun pins s σ H Q I h => ?_⟩
  rw [PpSet.eval_SetComp]
  have caught : ∀ y ∈ scope.names, y.2 = .free → ∃ c, X.env.cells.lookup y.1 = some c := fun y hy e =>
    (ok.free y hy e).elim (fun k => I.ok.has _ (.inl k)) fun k => I.ok.has _ (.inr k)
  refine wpAny_comprehension_free (use := none) rfl hs (closure_ok caught) ok.kind (fun y hy e => by rw [ok.uniq y hy, e]) (thn (hi.run pins s σ H _ I h) fun xv s1 hx => thn hx fun itv s2 h2 => ?_)
  obtain ⟨it, fp, tn, J, H2, rfl, I2, T, st2, f2, q⟩ := h2
  refine PpSet.newSet_ok (newEnv_comp ?_)
  obtain ⟨W, ⟨m0, w0⟩, turn⟩ := q s2.heap.objs.size (I2.hok.fresh (Nat.le_refl _))
  have I3 : Inv X pins σ (upd H2 s2.heap.objs.size (new s2.heap.objs.size)) { s2 with heap := s2.heap.push { cls := .type "set", dict := none, data := .set #[] 0 (.fresh 0 0 (!X.w.params.followText "set-order")) } } :=
    I2.laid (t' := s2.toks) (fun b o e => Heap.get?_push_of_some _ e) (Nat.le_refl _) ((col s2 H2 0 [] []).fresh _ s2.heap)
  have size3 : (s2.heap.push { cls := .type "set", dict := none, data := .set #[] 0 (.fresh 0 0 (!X.w.params.followText "set-order")) }).objs.size = s2.heap.objs.size + 1 := by rw [Heap.size_push]
  have old : ∀ b ∈ fp, b < s2.heap.objs.size := fun b hb => by
    obtain ⟨o, e, _⟩ := T.obj _ _ st2 b hb
    exact Heap.lt_size e
  have st3 : tn 0 (s2.heap.push { cls := .type "set", dict := none, data := .set #[] 0 (.fresh 0 0 (!X.w.params.followText "set-order")) }) := T.keep _ _ _ st2 fun b _ o e => Heap.get?_push_of_some _ e
  have f3 : ∀ b ∈ fp, FpOk X pins (upd H2 s2.heap.objs.size (new s2.heap.objs.size)) b ∧ b < (s2.heap.push { cls := .type "set", dict := none, data := .set #[] 0 (.fresh 0 0 (!X.w.params.followText "set-order")) }).objs.size := fun b hb => by
    have lt := old b hb
    refine ⟨⟨by rw [upd_ne (Nat.ne_of_lt lt)]; exact (f2 b hb).1, (f2 b hb).2⟩, by rw [size3]; exact Nat.lt_succ_of_lt lt⟩
  generalize hD : s2.heap.objs.size = D at *
  generalize hs3 : ({ s2 with heap := s2.heap.push { cls := .type "set", dict := none, data := .set #[] 0 (.fresh 0 0 (!X.w.params.followText "set-order")) } } : Shared) = s3 at *
  have h3 : s2.heap.push { cls := .type "set", dict := none, data := .set #[] 0 (.fresh 0 0 (!X.w.params.followText "set-order")) } = s3.heap := by rw [← hs3]
  rw [h3] at st3 f3 size3
  generalize upd H2 D (new D) = H3 at *
  have I4 := block_start I3 ok nd f3
  have pc := col s3 H3 s3.heap.objs.size (cellsFrom (s3.heap.objs.size + 1) scope.names (cloFrom X.env.cells scope.names [])) fp
  have pg := hg s3 H3 s3.heap.objs.size (cellsFrom (s3.heap.objs.size + 1) scope.names (cloFrom X.env.cells scope.names [])) fp
  have pt := ht s3 H3 s3.heap.objs.size (cellsFrom (s3.heap.objs.size + 1) scope.names (cloFrom X.env.cells scope.names [])) fp
  have pe := he s3 H3 s3.heap.objs.size (cellsFrom (s3.heap.objs.size + 1) scope.names (cloFrom X.env.cells scope.names [])) fp
  generalize hC : compEnvC scope (cellsFrom (s3.heap.objs.size + 1) scope.names (cloFrom X.env.cells scope.names [])) s3.heap.objs.size X.env = ce at *
  have cL : ce.locals = s3.heap.objs.size := by rw [← hC]; rfl
  have empty3 : ∀ b ∈ fp, H3 b = none := fun b hb => (f3 b hb).1.1
  have quiet : ∀ {σ' : L2.St} {H' : Hp} {s' : Shared}, Inv (X.blk s3 H3 scope ce fp) [] σ' H' s' → (∀ b ∈ fp, H' b = none) → ∀ b ∈ fp, FpOk (X.blk s3 H3 scope ce fp) [] H' b := fun {σ' H' s'} J' n b hb => by
    have z := J'.ok.exf b hb
    exact ⟨n b hb, z.1, J'.ok.exfs b hb, .inl hb, fun x c e => z.2 x c e, fun p hp => absurd (show p ∈ ([] : List (Addr × Obj)) ++ [] from hp) (by simp)⟩
  -- the walk, from any heap with the block's own things
  have walk : ∀ s4 : Shared, Inv (X.blk s3 H3 scope ce fp) [] (wipe σ (own.map (·.2))) H3 s4 → tn 0 s4.heap →
      codeAny (model X.prog X.w) X.A (.compLoop (.SetComp elt [⟨tg, iter, ifs, 0⟩] scope pos) 0 (.ref it) (.ref D) ce) (compPost (model X.prog X.w) X.A X.xe none (EP X pins σ Q) (.ref D) s3.heap.objs.size) s4 := by
    intro s4 J4 st4
    refine PpSet.compLoopS_any (fun n s' => ∃ i H', Inv (X.blk s3 H3 scope ce fp) [] (wipe σ (own.map (·.2))) H' s' ∧ tn i s'.heap ∧ (∀ b ∈ fp, H' b = none) ∧ W i n H') (fun n s5 hw => ?_) m0 ⟨0, H3, J4, st4, empty3, w0⟩
    obtain ⟨i, H5, J5, st5, e5, w5⟩ := hw
    rcases turn i n H5 w5 with ⟨stop, fin⟩ | ⟨go, N, less, step⟩
    · refine thnF (T.done (X.blk s3 H3 scope ce fp) rfl rfl rfl calm i [] s5 _ H5 (fun _ _ => False) J5 (quiet J5 e5) st5 stop) fun r s6 hr => ?_
      obtain ⟨rfl, J6⟩ := hr
      have I7 : Inv X pins σ H5 s6 := I3.call' (ch := fp) J6.os J6.base J6.hok J6.bare fun b hb => by
        obtain ⟨_, z2, z3, z4, z5, z6⟩ := (f3 b hb).1
        exact ⟨z4, z2, z5, z6⟩
      obtain ⟨m, hn, _⟩ := J6.loc
      have hn' : s6.heap.Ns ce.locals m := hn
      have nC : H5 ce.locals = none := J6.free
      rw [cL] at hn' nC
      obtain ⟨f0, f1, f2', f3', f4, f5⟩ := I3.fpOk (H' := H5) (Nat.le_refl _) nC
      exact ⟨m, hn', fun h'' sb => ⟨.ref D, H5, I7.turned (t' := s6.toks) (fun b o hb e => (sb.2 b hb).trans e) f0 f1 f3' f4 f5, rfl, fin⟩⟩
    · refine thnF (T.item (X.blk s3 H3 scope ce fp) rfl rfl rfl calm i [] s5 _ H5 (fun _ _ => False) J5 (quiet J5 e5) st5 go) fun r s6 hr => ?_
      obtain ⟨u, rfl, h6⟩ := hr
      refine thnF h6 fun _ s7 h7 => ?_
      obtain ⟨x, H7, J7, r7, y7, st7, e7⟩ := h7
      refine thnF (pg.run _ s7 _ H7 x u _ (J7.pinned (quiet J7 e7) (T.obj _ _ st7)) r7 (step x H7 y7)) fun _ s8 h8 => ?_
      obtain ⟨σ8, H8, J8, w8, q8⟩ := h8
      refine thnF (pt.run _ s8 σ8 H8 _ J8 q8) fun b s9 h9 => ?_
      obtain ⟨H9, J9, q9⟩ := h9
      have back : ∀ {s' : Shared} {H' : Hp}, Inv (X.blk s3 H3 scope ce fp) ([] ++ pinsAt fp s7.heap) σ8 H' s' → N H' → ∃ m, m < n ∧ ∃ i H', Inv (X.blk s3 H3 scope ce fp) [] (wipe σ (own.map (·.2))) H' s' ∧ tn i s'.heap ∧ (∀ b ∈ fp, H' b = none) ∧ W i m H' := fun {s' H'} J' hN => by
        obtain ⟨m', lt, w'⟩ := less H' hN
        have held : ∀ b ∈ fp, ∀ o, s7.heap.get? b = some o → s'.heap.get? b = some o ∧ H' b = none := fun b hb o e => by
          have z := J'.pin (b, o) (List.mem_append_right _ (List.mem_append_right _ (mem_pinsAt hb e)))
          exact ⟨z.1, z.2.1⟩
        have len : (wipe σ (own.map (·.2))).length = σ8.length := by rw [← w8, wipe_length]
        refine ⟨m', lt, i + 1, H', (J'.unpinned (pins := [])).weak len (fun j v e => ?_), T.keep _ _ _ st7 fun b hb o e => (held b hb o e).1, fun b hb => ?_, w'⟩
        · rw [← w8] at e
          exact (wipe_some e).1
        · obtain ⟨o, e, _⟩ := T.obj _ _ st7 b hb
          exact (held b hb o e).2
      cases b with
      | false => exact back J9 (by simpa using q9)
      | true =>
        refine thnF (pe.run _ s9 σ8 H9 _ J9 (by simpa using q9)) fun z s10 h10 => ?_
        obtain ⟨y, H10, J10, r10, q10⟩ := h10
        refine thnF (pc.put J10 r10 q10) fun _ s11 h11 => ?_
        obtain ⟨H11, J11, q11⟩ := h11
        exact back J11 q11
  have st4 : tn 0 (pushCells (s3.heap.push { cls := .type "dict", data := .dict #[] }) scope.names) := T.keep _ _ _ st3 fun b _ o e => pushCells_keeps _ _ _ _ (Heap.get?_push_of_some _ e)
  have loop := walk _ I4 st4
  subst hC
  exact PpSet.codeAny_compStart_set loop (T.self X.A 0 _ _ _ st4 loop)
/-- ints -/
def newI (w : World) : Addr → HO := fun D => SetO w D (fun _ => false) 0
def addI (w : World) : V → Addr → Hp → (Hp → Prop) → Prop := fun y D H N => ∃ (k : Int) (S : Int → Bool) (n : Nat), y = .int k ∧ H D = some (SetO w D S n) ∧ n + 1 < scanBound ∧ N (upd H D (SetO w D (fun j => S j || decide (j = k)) (if S k = true then n else n + 1)))
theorem colI {X : Cx} (w0 : World) (hw : X.w = w0) : Col X (newI w0) (addI w0) := by
  subst hw
  refine ⟨fun H h => setO_new (setR_fresh X.w), fun {pins σ H s y u D N E} I r h => ?_⟩
  obtain ⟨k, S, n, rfl, hD, room, q⟩ := h
  obtain ⟨tk, rfl⟩ := r
  refine setR_add (setO_get I hD) room fun h' sb nw => ?_
  have there : ∃ u, h'.get? D = some u := by
    have ⟨o, _, _, _, ho, _⟩ := nw
    exact ⟨o, ho⟩
  exact ⟨_, I.write (e := D) (t' := s.toks + 1) (by rw [hD]; trivial) (.inl rfl) (fun b u hb hu => (sb.2 b hb).trans hu) there (setO_new nw), q⟩
end
section
variable {K : PySem.W.Frag} {σ : L2.St} {H : Hp} {g : TG} {tt : TT} {te : TE} {vs : List Nat} {new : Addr → HO} {add : V → Addr → Hp → (Hp → Prop) → Prop}
theorem w_SC {wi : TI} {Q : VK} (h : wi σ H fun J H1 => ∀ D, H1 D = none → ∃ W : Nat → Nat → Hp → Prop, (∃ m, W 0 m (upd H1 D (new D))) ∧ ∀ i m H, W i m H →
  (J.stop i H ∧ Q (.ref D) H) ∨ (J.go i H ∧ ∃ N : Hp → Prop, (∀ H', N H' → ∃ m', m' < m ∧ W (i + 1) m' H') ∧ ∀ x H', J.yld i H x H' → g x (wipe σ vs) H' fun σ2 H2 => wipe σ2 vs = wipe σ vs ∧ tt σ2 H2 fun b H3 =>
    if b = true then te σ2 H3 fun y H4 => add y D H4 N else N H3)) : tSC new add wi g tt te vs σ H Q := h
theorem w_scL {p : Addr} {xs : List V} {R : Addr → Hp → Prop} (hS : SqL K H p xs) (h : ∀ D, H D = none → ∃ Pv : Nat → Hp → Prop, Pv 0 (upd H D (new D)) ∧ (∀ i H2, i ≤ xs.length → Pv i H2 → SqL K H2 p xs) ∧
      (∀ i x H2, xs[i]? = some x → Pv i H2 → g x (wipe σ vs) H2 fun σ2 H2 => wipe σ2 vs = wipe σ vs ∧ tt σ2 H2 fun b H3 =>
        if b = true then te σ2 H3 fun y H4 => add y D H4 (Pv (i + 1)) else Pv (i + 1) H3) ∧ (∀ H2, Pv xs.length H2 → R D H2)) :
    ∃ a, V.ref p = .ref a ∧ (∃ xs, SqL K H a xs) ∧ ∀ D, H D = none → ∃ W : Nat → Nat → Hp → Prop, (∃ m, W 0 m (upd H D (new D))) ∧ ∀ i m H, W i m H →
      ((Itl K a).stop i H ∧ R D H) ∨ ((Itl K a).go i H ∧ ∃ N : Hp → Prop, (∀ H', N H' → ∃ m', m' < m ∧ W (i + 1) m' H') ∧ ∀ x H', (Itl K a).yld i H x H' → g x (wipe σ vs) H' fun σ2 H2 => wipe σ2 vs = wipe σ vs ∧ tt σ2 H2 fun b H3 =>
        if b = true then te σ2 H3 fun y H4 => add y D H4 N else N H3) := by
  refine ⟨p, rfl, ⟨xs, hS⟩, fun D hD => ?_⟩
  obtain ⟨Pv, h0, hl, hs, hd⟩ := h D hD
  refine ⟨fun i m H => m + i = xs.length ∧ Pv i H, ⟨xs.length, rfl, h0⟩, ?_⟩
  rintro i m H2 ⟨hm, p2⟩
  have q := hl i H2 (by omega) p2
  by_cases lt : i < xs.length
  · refine .inr ⟨⟨xs, xs[i], q, List.getElem?_eq_getElem lt⟩, Pv (i + 1), fun H' p' => ⟨m - 1, by omega, by omega, p'⟩, ?_⟩
    rintro v H' ⟨rfl, hx⟩
    exact hs i v _ (hx xs q) p2
  · obtain rfl : i = xs.length := by omega
    exact .inl ⟨⟨xs, q, Nat.le_refl _⟩, hd H2 p2⟩
end
end Fsc
end

section
-- part F24
set_option Elab.async false
set_option linter.all false
set_option maxRecDepth 100000
set_option maxHeartbeats 2000000
/-! F24: zip of a tuple and a list; a walk over a list or a tuple; comprehensions over zip of two tuples -/
namespace F24
open PySem PySem.Spec PyProof.Rows L2 Fw
theorem or_pi {X : Cx} {tg e : Expr} {w1 w2 : TI} (h1 : PI X tg e w1) (h2 : PI X tg e w2) : PI X tg e (fun σ H R => w1 σ H R ∨ w2 σ H R) := by
  refine ⟨fun pins s σ H R I h => ?_⟩
  rcases h with h | h
  · exact h1.run pins s σ H R I h
  · exact h2.run pins s σ H R I h
/-- a tuple and a list as they stand at each turn, the items in new tuples -/
def ItzM (K : PySem.W.Frag) (a b : Addr) : It :=
  ⟨fun i H => ∃ (xs ys : List V) (x y : V), SqT K H a xs ∧ SqL K H b ys ∧ xs[i]? = some x ∧ ys[i]? = some y,
    fun i H v H' => ∃ T x y, v = .ref T ∧ H T = none ∧ H' = upd H T (.tup [x, y]) ∧ (∀ xs, SqT K H a xs → xs[i]? = some x) ∧ ∀ ys, SqL K H b ys → ys[i]? = some y,
    fun i H => ∃ xs ys : List V, SqT K H a xs ∧ SqL K H b ys ∧ i = xs.length ∧ xs.length = ys.length⟩
theorem sub5 {z TI TO i1 i2 d : Addr} (h : d ∉ [z, TI, TO, i1, i2]) : d ∉ [z, TO, i1, i2] := fun q => h (by
  simp only [List.mem_cons, List.not_mem_nil, or_false] at q ⊢
  rcases q with q | q | q | q <;> simp [q])
theorem turn_zipM {P : Program} {w : World} {K : PySem.W.Frag} {elts : List Expr} {kk : Nat} {tpos : Pos} {a b z TI TO i1 i2 : Addr} (S : ZipSep2 z TI TO i1 i2 [i1, a] [i2, b]) (na : a ≠ i1) (nb : b ≠ i2) :
    Turn P w K (.Tuple elts kk tpos) (ItzM K a b) [z, TI, TO, i1, i2] z (fun i h => IsZip h z TI TO .none ∧ IsTupOf2 h TI (.ref i1) (.ref i2) ∧ (∃ x y, IsTupOf2 h TO x y) ∧ h.IsTupleIter i1 a i ∧ h.IsListIter i2 b i) where
  mem := by simp
  obj := fun i h st d hd => by
    obtain ⟨hz, hTI, ⟨x, y, hTO⟩, ⟨o1, e1, _, d1⟩, ⟨o2, e2, _, d2⟩⟩ := st
    have e' : d = z ∨ d = TI ∨ d = TO ∨ d = i1 ∨ d = i2 := by simpa using hd
    rcases e' with q | q | q | q | q
    · rw [q]; exact ⟨_, hz, fun v q => nomatch q⟩
    · rw [q]; exact ⟨_, hTI, fun v q => nomatch q⟩
    · rw [q]; exact ⟨_, hTO, fun v q => nomatch q⟩
    · rw [q]; exact ⟨o1, e1, fun v q => by rw [d1] at q; cases q⟩
    · rw [q]; exact ⟨o2, e2, fun v q => by rw [d2] at q; cases q⟩
  keep := fun i h h' st k => by
    obtain ⟨hz, hTI, ⟨x, y, hTO⟩, h1, h2⟩ := st
    exact ⟨k z (by simp) _ hz, k TI (by simp) _ hTI, ⟨x, y, k TO (by simp) _ hTO⟩, h1.at fun o q => k i1 (by simp) o q, h2.at fun o q => k i2 (by simp) o q⟩
  item := by
    intro X hP hw hK hc i pins s σ H E I hf st hg
    subst hP hw hK
    obtain ⟨hz, hTI, hTO, h1, h2⟩ := st
    obtain ⟨xs, ys, x, y, hqx, hqy, hx, hy⟩ := hg
    obtain ⟨its, rv, p, _⟩ := I.tuple hqx
    obtain ⟨its2, rv2, p2, _⟩ := I.list hqy
    obtain ⟨u, hu, ru⟩ := rv.get hx
    obtain ⟨u2, hu2, ru2⟩ := rv2.get hy
    have hh : X.A.in1.handled = none := I.ok.hd hc
    have W := WalksT.zipD2 (prog := X.prog) (w := X.w) (A := X.A) S (Draws.tuple hh i1 a na its.toArray) (Draws.list hh i2 b nb its2.toArray)
    have l1 : i < its.length := (List.getElem?_eq_some_iff.mp hu).1
    have l2 : i < its2.length := (List.getElem?_eq_some_iff.mp hu2).1
    refine W.item i s _ _ (by simp only [List.size_toArray]; omega) ⟨hz, hTI, hTO, ⟨h1, p⟩, ⟨h2, p2.isList⟩⟩ fun T vals h' tk hP hsz hT hmid hk => ?_
    refine ⟨_, rfl, W.go _ _ _ i T { s with heap := h', toks := tk } _ _ hmid fun h'' st'' hk'' => ?_⟩
    obtain ⟨x1, x2, q1, q2, rfl⟩ := hP
    have q1' : its[i]? = some x1 := by simpa using q1
    have q2' : its2[i]? = some x2 := by simpa using q2
    rw [hu] at q1'
    rw [hu2] at q2'
    cases q1'
    cases q2'
    have hT2 : h''.IsTuple T #[u, u2] := hT.at fun o e => hk'' T o (W.apart i T h' hmid) e
    have new : ObjOk X.prog X.w (upd H T (.tup [x, y])) h'' T (.tup [x, y]) := ⟨by show 2 ≤ sizeLine; decide, [u, u2], .cons ru (.cons ru2 .nil), hT2⟩
    have nin : ∀ d, d ∉ [z, TI, TO, i1, i2] → d ∉ [z, TO, i1, i2] := fun d hd => sub5 hd
    have I1 : Inv X pins σ (upd H T (.tup [x, y])) { s with heap := h'', toks := tk } :=
      I.turnedNew (t' := tk) (ch := [z, TI, TO, i1, i2]) (fun d o hb q => hk'' d o (nin d hb) (hk d o (nin d hb) q)) hf hsz new
    refine ⟨.ref T, _, I1, rfl, ⟨_, x, y, rfl, I.hok.fresh hsz, rfl, fun l hl => by rw [I.tuple_inj hl hqx]; exact hx, fun l hl => by rw [I.list_inj hl hqy]; exact hy⟩, ⟨st''.1, st''.2.1, st''.2.2.1, st''.2.2.2.1.1, st''.2.2.2.2.1⟩, fun d hd => ?_⟩
    have hlt : d < s.heap.objs.size := by
      have e' : d = z ∨ d = TI ∨ d = TO ∨ d = i1 ∨ d = i2 := by simpa using hd
      obtain ⟨a1, a2, hTO⟩ := hTO
      rcases e' with q | q | q | q | q
      · rw [q]; exact Heap.lt_size hz
      · rw [q]; exact Heap.lt_size hTI
      · rw [q]; exact Heap.lt_size hTO
      · rw [q]; obtain ⟨_, e1, _⟩ := h1; exact Heap.lt_size e1
      · rw [q]; obtain ⟨_, e2, _⟩ := h2; exact Heap.lt_size e2
    rw [upd_ne (Nat.ne_of_lt (Nat.lt_of_lt_of_le hlt hsz))]
    exact (hf d hd).1
  done := by
    intro X hP hw hK hc i pins s σ H E I hf st hg
    subst hP hw hK
    obtain ⟨hz, hTI, hTO, h1, h2⟩ := st
    obtain ⟨xs, ys, hqx, hqy, rfl, e1⟩ := hg
    obtain ⟨its, rv, p, _⟩ := I.tuple hqx
    obtain ⟨its2, rv2, p2, _⟩ := I.list hqy
    have hh : X.A.in1.handled = none := I.ok.hd hc
    have l1 := rv.length
    have l2 := rv2.length
    have W := WalksT.zipD2 (prog := X.prog) (w := X.w) (A := X.A) S (Draws.tuple hh i1 a na its.toArray) (Draws.list hh i2 b nb its2.toArray)
    have en : min its.toArray.size its2.toArray.size = xs.length := by simp only [List.size_toArray]; omega
    refine W.done s _ _ (by rw [en]; exact ⟨hz, hTI, hTO, ⟨h1, p⟩, ⟨h2, p2.isList⟩⟩) fun h' tk hk => ⟨rfl, I.turnedL (t' := tk) (ch := [z, TI, TO, i1, i2]) (fun d o hb q => hk d o (sub5 hb) q) hf⟩
  self := fun A i s Q E st h => wpAny_pyIter_zip st.1 h
def iZipM (K : PySem.W.Frag) (ta : TA) : TI := fun σ H R => ta σ H fun vs H1 => ∃ a b xs ys, vs = [.ref a, .ref b] ∧ SqT K H1 a xs ∧ SqL K H1 b ys ∧ R (ItzM K a b) H1
theorem pi_zipM {X : Cx} {e e2 : Expr} {ta : TA} {p pos tpos : Pos} {elts : List Expr} {kk : Nat} (hg : Gl X "zip") (hm : X.mg "zip" = none) (ha : PA X [e, e2] ta)
    (hs : starEach [e, e2] X.env = (false, eval e X.env) :: starEach [e2] X.env := by rfl) (hpl : (backTo pos (starEach [e2] X.env)).any (·.1) = false := by rfl) :
    PI X (.Tuple elts kk tpos) (.Call (.Name "zip" p) [e, e2] [] pos) (iZipM X.K ta) := by
  refine ⟨fun pins s σ H R I h => ?_⟩
  refine Call_ (ld_blt I hg hm PyProof.Rows.boot_zip (PyProof.Rows.callWith_type1 (thn (ha.run pos pins s σ H _ I h) fun us s1 ⟨vs, H1, I1, r1, q1⟩ => ?_) hs hpl))
  obtain ⟨a, b, xs, ys, ex, hqx, hqy, q⟩ := q1
  subst ex
  cases r1 with
  | cons r rr =>
    cases rr with
    | cons r' rr =>
      cases rr
      cases r
      cases r'
      obtain ⟨its, rv, p1, _⟩ := I1.tuple hqx
      obtain ⟨its2, rv2, p2, _⟩ := I1.list hqy
      have la : a < s1.heap.objs.size := by obtain ⟨o, ho, _⟩ := id p1; exact Heap.lt_size ho
      have lb : b < s1.heap.objs.size := p2.lt
      have one : ∀ {x N : Addr}, x < N → ∀ d ∈ [x], d < N := fun {x N} h d hd => by rw [List.mem_singleton.mp hd]; exact h
      have S := zip_sep2 (N := s1.heap.objs.size) (one la) (one lb)
      refine zip_begins2 (begins_tuple a its.toArray) (begins_list b its2.toArray) p1 p2.isList fun h' hz hTI hTO g1 g2 hsz hk => wpAny_pyIter_zip hz ?_
      have I2 : Inv X pins σ H1 { s1 with heap := h' } := I1.kept (t' := s1.toks) hk
      refine ⟨_, _, _, _, H1, rfl, I2, turn_zipM (K := X.K) (a := a) (b := b) S (Nat.ne_of_lt la) (Nat.ne_of_lt (Nat.lt_of_lt_of_le lb (Nat.le_add_right _ 1))), ⟨hz, hTI, ⟨_, _, hTO⟩, ⟨_, g1, rfl, rfl⟩, ⟨_, g2, rfl, rfl⟩⟩, fun d hdm => ?_, q⟩
      have hle : s1.heap.objs.size ≤ d := by
        simp only [List.mem_cons, List.not_mem_nil, or_false] at hdm
        rcases hdm with q | q | q | q | q <;> rw [q] <;> first | exact Nat.le_refl _ | exact Nat.le_add_right _ _
      exact I1.fpOk hle (I1.hok.fresh hle)
section
variable {K : PySem.W.Frag} {σ : L2.St} {H : Hp} {te : TE} {vs : List Nat} {tt : TT} {g : TG} {ta : TA}
theorem w_iZipM {R : It → Hp → Prop} (h : ta σ H fun vs H1 => ∃ a b xs ys, vs = [.ref a, .ref b] ∧ SqT K H1 a xs ∧ SqL K H1 b ys ∧ R (ItzM K a b) H1) : iZipM K ta σ H R := h
theorem w_iZipA {R : It → Hp → Prop} (h : ta σ H fun vs H1 => ∃ a b xs ys, vs = [.ref a, .ref b] ∧ ((SqL K H1 a xs ∧ SqL K H1 b ys ∧ R (Itz K a b) H1) ∨ (SqT K H1 a xs ∧ SqT K H1 b ys ∧ R (RZ.ItzT K a b) H1))) : RZ.iZipA K ta σ H R := h
theorem for_zipM {tb : TS} {D : Ends} {a b : Addr} {xs ys : List V} (hl : xs.length = ys.length) (Pv : Nat → L2.St → Hp → Prop) (h0 : Pv 0 σ H) (hq : ∀ i σ H, Pv i σ H → SqT K H a xs ∧ SqL K H b ys)
    (hs : ∀ (i : Nat) (x y : V) (T : Addr) (σ : L2.St) (H : Hp), xs[i]? = some x → ys[i]? = some y → Pv i σ H → H T = none → g (.ref T) σ (upd H T (.tup [x, y])) fun σ2 H2 => tb { D with nx := Pv (i + 1), ct := Pv (i + 1), bk := D.nx } σ2 H2)
    (hd : ∀ σ H, Pv xs.length σ H → D.nx σ H) :
    ∃ W : Nat → Nat → L2.St → Hp → Prop, (∃ m, W 0 m σ H) ∧ ∀ i m σ H, W i m σ H →
      ((ItzM K a b).stop i H ∧ D.nx σ H) ∨ ((ItzM K a b).go i H ∧ ∃ N : L2.St → Hp → Prop, (∀ σ' H', N σ' H' → ∃ m', m' < m ∧ W (i + 1) m' σ' H') ∧ ∀ v H', (ItzM K a b).yld i H v H' → g v σ H' fun σ2 H2 => tb { D with nx := N, ct := N, bk := D.nx } σ2 H2) := by
  refine ⟨fun i m σ H => m = xs.length - i ∧ i ≤ xs.length ∧ Pv i σ H, ⟨_, rfl, Nat.zero_le _, h0⟩, ?_⟩
  rintro i m σ H ⟨rfl, hi, p⟩
  have q := hq i σ H p
  by_cases h1 : i < xs.length
  · have h2 : i < ys.length := by omega
    refine .inr ⟨⟨xs, ys, xs[i], ys[i], q.1, q.2, List.getElem?_eq_getElem h1, List.getElem?_eq_getElem h2⟩, Pv (i + 1), fun σ' H' p' => ⟨xs.length - (i + 1), by omega, rfl, h1, p'⟩, ?_⟩
    rintro v H' ⟨T, x, y, rfl, hT, rfl, hx, hy⟩
    exact hs i x y T σ H (hx xs q.1) (hy ys q.2) p hT
  · obtain rfl : i = xs.length := by omega
    exact .inl ⟨⟨xs, ys, q.1, q.2, rfl, hl⟩, hd σ H p⟩
/-- a comprehension over zip of two tuples, the second no longer than the first -/
theorem w_lcZT {a b : Addr} {xs ys : List V} {R : Addr → Hp → Prop} (hx : SqT K H a xs) (hy : SqT K H b ys) (hl : ys.length ≤ xs.length) (h : ∀ D, H D = none → ∃ Pv : Nat → Hp → Prop, Pv 0 (upd H D (.lst [])) ∧ (∀ i H2, Pv i H2 → SqT K H2 a xs ∧ SqT K H2 b ys) ∧
      (∀ (i : Nat) x y T H2, xs[i]? = some x → ys[i]? = some y → Pv i H2 → H2 T = none → g (.ref T) (wipe σ vs) (upd H2 T (.tup [x, y])) fun σ2 H2 => wipe σ2 vs = wipe σ vs ∧ tt σ2 H2 fun b H3 =>
        if b = true then te σ2 H3 fun y H4 => ∃ acc, H4 D = some (.lst acc) ∧ acc.length < sizeLine ∧ Pv (i + 1) (upd H4 D (.lst (acc ++ [y]))) else Pv (i + 1) H3) ∧ (∀ H2, Pv ys.length H2 → R D H2)) :
    ∃ a' b' xs ys, [V.ref a, V.ref b] = [V.ref a', V.ref b'] ∧ ((SqL K H a' xs ∧ SqL K H b' ys ∧ ∀ D, H D = none → ∃ W : Nat → Nat → Hp → Prop, (∃ m, W 0 m (upd H D (.lst []))) ∧ ∀ i m H, W i m H →
      ((Itz K a' b').stop i H ∧ R D H) ∨ ((Itz K a' b').go i H ∧ ∃ Nx : Hp → Prop, (∀ H', Nx H' → ∃ m', m' < m ∧ W (i + 1) m' H') ∧ ∀ x H', (Itz K a' b').yld i H x H' → g x (wipe σ vs) H' fun σ2 H2 => wipe σ2 vs = wipe σ vs ∧ tt σ2 H2 fun b H3 =>
        if b = true then te σ2 H3 fun y H4 => ∃ acc, H4 D = some (.lst acc) ∧ acc.length < sizeLine ∧ Nx (upd H4 D (.lst (acc ++ [y]))) else Nx H3)) ∨
      (SqT K H a' xs ∧ SqT K H b' ys ∧ ∀ D, H D = none → ∃ W : Nat → Nat → Hp → Prop, (∃ m, W 0 m (upd H D (.lst []))) ∧ ∀ i m H, W i m H →
      ((RZ.ItzT K a' b').stop i H ∧ R D H) ∨ ((RZ.ItzT K a' b').go i H ∧ ∃ Nx : Hp → Prop, (∀ H', Nx H' → ∃ m', m' < m ∧ W (i + 1) m' H') ∧ ∀ x H', (RZ.ItzT K a' b').yld i H x H' → g x (wipe σ vs) H' fun σ2 H2 => wipe σ2 vs = wipe σ vs ∧ tt σ2 H2 fun b H3 =>
        if b = true then te σ2 H3 fun y H4 => ∃ acc, H4 D = some (.lst acc) ∧ acc.length < sizeLine ∧ Nx (upd H4 D (.lst (acc ++ [y]))) else Nx H3))) := by
  refine ⟨a, b, xs, ys, rfl, .inr ⟨hx, hy, fun D hD => ?_⟩⟩
  obtain ⟨Pv, h0, hq, hs, hd⟩ := h D hD
  refine ⟨fun i m H => m = ys.length - i ∧ i ≤ ys.length ∧ Pv i H, ⟨_, rfl, Nat.zero_le _, h0⟩, ?_⟩
  rintro i m H2 ⟨rfl, hi, p⟩
  obtain ⟨q1, q2⟩ := hq i H2 p
  by_cases h2 : i < ys.length
  · have h1 : i < xs.length := by omega
    refine .inr ⟨⟨xs, ys, xs[i], ys[i], q1, q2, List.getElem?_eq_getElem h1, List.getElem?_eq_getElem h2⟩, Pv (i + 1), fun H' p' => ⟨ys.length - (i + 1), by omega, rfl, h2, p'⟩, ?_⟩
    rintro v H' ⟨T, x, y, rfl, hT, rfl, hx', hy'⟩
    exact hs i x y T H2 (hx' xs q1) (hy' ys q2) p hT
  · obtain rfl : i = ys.length := by omega
    exact .inl ⟨⟨xs, ys, q1, q2, .inr (Nat.le_refl _)⟩, hd H2 p⟩
end
end F24
end

section
-- part K24A
set_option Elab.async false
set_option linter.all false
set_option maxRecDepth 100000
set_option maxHeartbeats 800000
open PySem PySem.Spec PyProof.Rows L2 Fw
local macro_rules | `(tactic| walk_at "e1") => `(tactic| first
  | ((with_reducible refine' w_var ?hv ?_); (case hv => rfl))
  | with_reducible refine w_c ?_
  | with_reducible refine w_op ?_
  | with_reducible refine w_un ?_
  | with_reducible refine w_cons ?_
  | with_reducible refine w_nil ?_
  | with_reducible refine w_cl ?_
  | with_reducible refine w_cb ?_
  | with_reducible refine w_gname ?_
  | with_reducible refine w_gsub ?_
  | with_reducible refine w_test ?_
  | with_reducible refine w_B ?_
  | with_reducible refine w_bl ?_
  | with_reducible refine w_and ?_
  | with_reducible refine w_or ?_
  | with_reducible refine w_not ?_
  | with_reducible refine w_if ?_
  | with_reducible refine w_I0 ?_
  | with_reducible refine Gk.w_rU ?_
  | with_reducible refine Dq.w_orV ?_
  | with_reducible refine Dq.w_js ?_
  | with_reducible refine Dq.w_js0 ?_
  | with_reducible refine Dq.w_fm ?_
  | with_reducible refine Dq.w_andV ?_
  | with_reducible refine Gk.w_iEnum ?_
  | with_reducible refine Dq.w_dget ?_
  | with_reducible refine Dq.w_dpop1 ?_
  | with_reducible refine Dq.w_ddel ?_
  | with_reducible refine Dq.w_din ?_
  | with_reducible refine Dq.w_dnotin ?_
  | with_reducible refine Dq.w_dget2 ?_
  | with_reducible refine Dq.w_dnew ?_
  | with_reducible refine Dq.w_fldaug ?_
  | with_reducible refine Dq.w_aSub ?_
  | with_reducible refine Dq.w_aAdd ?_
  | with_reducible refine Dq.w_mkd ?_
  | with_reducible refine Dq.w_notN0 ?_
  | with_reducible refine Dq.w_isN0 ?_
  | with_reducible refine Ftw.w_isTI ?_
  | with_reducible refine Ftw.w_isTS ?_
  | with_reducible refine Ftw.w_isTR ?_
  | with_reducible refine Ftw.w_isTN ?_
  | with_reducible refine Ftw.w_isTtt ?_
  | with_reducible refine Ftw.w_isTft ?_
  | with_reducible refine Ftw.w_isTtf ?_
  | with_reducible refine Ftw.w_isNS ?_
  | with_reducible refine Ftw.w_isNB ?_
  | ((with_reducible refine' Ftw.w_isiRS ?hq ?_); (case hq => assumption))
  | ((with_reducible refine' Ftw.w_isiRT ?hq ?_); (case hq => assumption))
  | ((with_reducible refine' Ftw.w_isiRI ?hq ?_); (case hq => assumption))
  | with_reducible refine Ftw.w_isiIT ?_
  | with_reducible refine Ftw.w_isiII ?_
  | with_reducible refine Dq.w_notNR ?_
  | with_reducible refine Dq.w_isNR ?_
  | with_reducible refine Dq.w_notNI ?_
  | with_reducible refine Dq.w_isNI ?_
  | with_reducible refine L2.w_neOs ?_
  | with_reducible refine w_ipI ?_
  | with_reducible refine w_eqS ?_
  | with_reducible refine w_neS ?_
  | with_reducible refine w_eqI ?_
  | with_reducible refine w_neI ?_
  | with_reducible refine w_eqB ?_
  | with_reducible refine w_neB ?_
  | ((with_reducible refine w_eq ?hs ?_); (case hs => rfl))
  | ((with_reducible refine w_ne ?hs ?_); (case hs => rfl))
  | with_reducible refine w_fld ?_
  | with_reducible refine w_bm ?_
  | with_reducible refine w_bm0 ?_
  | with_reducible refine w_sl ?_
  | with_reducible refine w_part ?_
  | with_reducible refine w_partI ?_
  | with_reducible refine w_nopart ?_
  | ((with_reducible refine' w_ixL ?hh ?ha ?_); (case hh => first | assumption | exact upd_same); (case ha => rfl))
  | ((with_reducible refine' w_setLu ?ha ?_); (case ha => rfl))
  | ((with_reducible refine' w_setL ?hh ?ha ?_); (case hh => first | assumption | exact upd_same); (case ha => rfl))
  | with_reducible refine w_iteT ?_
  | with_reducible refine w_iteF ?_
  | with_reducible refine w_lst ?_
  | with_reducible refine w_tup ?_
  | ((with_reducible refine w_new ?hz ?_); (case hz => rfl))
  | with_reducible refine w_lc ?_
  | with_reducible refine w_iL ?_
  | with_reducible refine w_iT ?_
  | with_reducible refine w_iR1 ?_
  | with_reducible refine w_iR2 ?_
  | with_reducible refine w_yes ?_
  | with_reducible refine w_iStr ?_
  | with_reducible exact tyS
  | with_reducible refine And.intro tyS ?_
  | ((with_reducible refine w_find3 ?_); (first | rw [find3_one] | rw [starts3] | skip))
  | ((with_reducible refine w_2s ?_); (try rw [find_one]))
  | ((with_reducible refine w_inS ?_); rw [S_list])
  | ((with_reducible refine w_lenS ?hz ?_); (case hz => first | assumption | omega | decide); rw [SX.S_len])
  | ((with_reducible refine w_addS ?hz ?_); (case hz => first | assumption | omega | decide); rw [vS_cat])
  | with_reducible refine w_mk ?_
  | with_reducible refine w_me ?_
  | with_reducible refine w_sfld ?_
  | ((with_reducible refine' w_gtup ?hh ?hn ?_); (case hh => first | assumption | exact upd_same); (case hn => rfl))
  | with_reducible refine w_gcons ?_
  | with_reducible refine w_gnil ?_
  | with_reducible refine w_repl ?_
  | with_reducible refine w_star ?_
  | with_reducible refine w_revL ?_
  | with_reducible refine w_isiS ?_
  | with_reducible refine w_isiI ?_
  | with_reducible refine w_isiN ?_
  | with_reducible refine w_chain ?_
  | with_reducible refine w_iEnumT ?_
  | with_reducible refine w_iZip3 ?_
  | with_reducible refine w_iZip ?_
  | with_reducible refine w_lenR3 ?_
  | with_reducible refine w_x1i ?_
  | with_reducible refine w_x1b ?_
  | with_reducible refine w_x1s ?_
  | with_reducible refine w_int1i ?_
  | with_reducible refine w_int1b ?_
  | ((with_reducible refine w_mod ?hc ?_); (case hc => omega))
  | ((with_reducible refine w_fdivW ?hc ?hd ?_); (case hc => omega); (case hd => omega))
  | ((with_reducible refine w_mul ?hc ?_); (case hc => first | exact Or.inr ⟨by decide, by decide⟩ | exact Or.inl ⟨by decide, by decide⟩))
  | ((with_reducible refine w_pow ?hc ?_); (case hc => exact ⟨by decide, by decide, by decide⟩)))
local macro_rules | `(tactic| walk_at "s1") => `(tactic| first
  | with_reducible refine w_seq ?_
  | with_reducible refine w_asg ?_
  | with_reducible refine w_ret ?_
  | with_reducible refine w_par ?_
  | with_reducible refine w_drop ?_
  | with_reducible refine w_next ?_
  | with_reducible refine w_ifs ?_
  | ((with_reducible refine' w_aug ?hv ?_); (case hv => rfl))
  | with_reducible refine w_for ?_
  | walk_at "e1")
local macro_rules | `(tactic| walk_at "e") => `(tactic| repeat walk_at "e1")
local macro_rules | `(tactic| walk_at "g") => `(tactic| repeat walk_at "s1")
local macro_rules | `(tactic| walk_at "n1") => `(tactic| ((fail_if_success (with_reducible refine w_if ?_)); walk_at "s1"))
local macro_rules | `(tactic| walk_at "n") => `(tactic| repeat walk_at "n1")

namespace K24
open Dc Gk
-- _law_dice: 0:cell
theorem sc__law_dice : FnScope ["cell"] ["cell"] (defScope s__law_dice) := ⟨rfl, rfl, rfl, by decide +kernel, rfl, by decide +kernel, by decide +kernel⟩
-- _law_roll: 0:dice 1:many 2:found
theorem sc__law_roll : FnScope ["dice", "many", "found"] ["dice", "many"] (defScope s__law_roll) := ⟨rfl, rfl, rfl, by decide +kernel, rfl, by decide +kernel, by decide +kernel⟩
-- _law_rounds: 0:script 1:most 2:cells 3:cell
theorem sc__law_rounds : FnScope ["script", "most", "cells", "cell"] ["script", "most"] (defScope s__law_rounds) := ⟨rfl, rfl, rfl, by decide +kernel, rfl, by decide +kernel, by decide +kernel⟩
structure Wl (K : PySem.W.Frag) (mg : Str → Option Value) : Prop where
  n_abs : mg "abs" = none
  n_int : mg "int" = none
  n_str : mg "str" = none
  n_len : mg "len" = none
  n_range : mg "range" = none
  d__law_dice : FnP K mg "_law_dice" s__law_dice
  d__law_roll : FnP K mg "_law_roll" s__law_roll
  d__law_rounds : FnP K mg "_law_rounds" s__law_rounds
section
variable {P : Program} {w : World} {K : PySem.W.Frag} {mg : Str → Option Value} {base : Heap}
theorem ok__law_dice (W : Wl K mg) : Cl P w K mg base 1 "_law_dice" spDice := by
  refine cl_mk W.d__law_dice sc__law_dice (fun _ _ _ _ _ _ us hl => match us, hl with | [_], _ => rfl) (fun vs H Q E h => ?_) (fun f cdv A outer s H vs Q E hr h => ?_)
  · obtain ⟨c, rfl, _⟩ := h; rfl
  obtain ⟨c, rfl, q⟩ := h
  refine ⟨_, (pss_cons (ps_if (pt_chain op_lt op_lt (pe_op op_sub pe_int pe_int) (pv 0) pe_int)
    (pss_one (ps_ret (pe_lst (pa_cons (pe_callB call_abs rfl W.n_abs (by decide +kernel) (pa_cons (pv 0) pa_nil)) (pa_cons pe_int (pa_cons pe_int pa_nil))))))
    pss_nil)
    (pss_one (ps_ret (pe_lst (pa_cons (pv 0) (pa_cons (pe_op op_add pe_int (pe_op op_mod (pe_callTy call_int1 rfl W.n_int (by decide +kernel) (pa_cons (pv 0) pa_nil)) pe_int)) (pa_cons (pe_callTy call_int1 rfl W.n_int (by decide +kernel) (pa_cons (pe_cmpR op_ge (pv 0) (pe_op op_pow pe_int pe_int) (nomark _)) pa_nil)) pa_nil))))))), ?_⟩
  walk_at "g"
  refine w_iteD (fun c1 => ?_) (fun c1 => ?_)
  · walk_at "g"
    refine w_iteD (fun c2 => ?_) (fun c2 => ?_)
    · walk_at "g"
      exact fun p hp => q p _ _ _ hp
    · walk_at "g"
      exact fun p hp => q p _ _ _ hp
  · walk_at "g"
    exact fun p hp => q p _ _ _ hp
theorem ok__law_roll (W : Wl K mg) : Cl P w K mg base 1 "_law_roll" spRoll := by
  refine cl_mk W.d__law_roll sc__law_roll (fun _ _ _ _ _ _ us hl => match us, hl with | [_, _], _ => rfl) (fun vs H Q E h => ?_) (fun f cdv A outer s H vs Q E hr h => ?_)
  · obtain ⟨d, m, a, b, c, rfl, _⟩ := h; rfl
  obtain ⟨d, m, a, b, c, rfl, hd, h0, h1, q⟩ := h
  refine ⟨_, (pss_cons (ps_if (PW.pt (pw_or (pt_cmpR op_eq (pe_ix ix_list (pv 0) pe_int (fun _ _ => rfl)) pe_int (nomark _)) (pw_or1 (PW.pt (pw_and (pt_cmpR op_eq (pe_ix ix_list (pv 0) pe_int (fun _ _ => rfl)) pe_int (nomark _)) (pw_and1 (pt_cmpR op_gt (pe_ix ix_list (pv 0) pe_int (fun _ _ => rfl)) pe_int (nomark _))))))))
    (pss_cons (ps_set (i := 2) sc__law_roll.nd rfl (Or.inl rfl) (pe_op op_mod (pe_callTy call_int1 rfl W.n_int (by decide +kernel) (pa_cons (pe_ix ix_list (pv 0) pe_int (fun _ _ => rfl)) pa_nil)) (pv 1)))
    (pss_cons (ps_asg (pe_op op_fdivW (pe_ix ix_list (pv 0) pe_int (fun _ _ => rfl)) (pv 1)) (pg_sub (pv 0) pe_int set_list))
    (pss_one (ps_ret (pv 2)))))
    pss_nil)
    (pss_cons (ps_asg pe_int (pg_sub (pv 0) pe_int set_list))
    (pss_cons (ps_asg (pe_op op_mod (pe_callTy call_int1 rfl W.n_int (by decide +kernel) (pa_cons (pe_op op_add (pe_op op_add (pe_op op_mul (pe_ix ix_list (pv 0) pe_int (fun _ _ => rfl)) pe_int) (pe_op op_mul (pe_ix ix_list (pv 0) pe_int (fun _ _ => rfl)) pe_int)) pe_int) pa_nil)) pe_int) (pg_sub (pv 0) pe_int set_list))
    (pss_cons (ps_asg (pe_op op_add (pe_ix ix_list (pv 0) pe_int (fun _ _ => rfl)) pe_int) (pg_sub (pv 0) pe_int set_list))
    (pss_one (ps_ret (pe_op op_mod (pe_callTy call_int1 rfl W.n_int (by decide +kernel) (pa_cons (pe_op op_fdivW (pe_ix ix_list (pv 0) pe_int (fun _ _ => rfl)) pe_int) pa_nil)) (pv 1)))))))), ?_⟩
  have fin : ∀ z a' b' c' : Int, Q (.int (z % m)) (upd H d (.lst [.int a', .int b', .int c'])) := fun z a' b' c' => q _ a' b' c' (mod_b h0).1 (mod_b h0).2
  walk_at "g"
  refine w_iteD (fun c1 => ?_) (fun c1 => ?_)
  · walk_at "g"
    exact fin _ _ _ _
  · walk_at "g"
    refine w_iteD (fun c2 => ?_) (fun c2 => ?_)
    · walk_at "g"
      refine w_iteD (fun c3 => ?_) (fun c3 => ?_)
      · walk_at "g"
        exact fin _ _ _ _
      · walk_at "g"
        exact fin _ _ _ _
    · walk_at "g"
      exact fin _ _ _ _
theorem ok__law_rounds (W : Wl K mg) (c__law_dice : Cl P w K mg base 1 "_law_dice" spDice) : Cl P w K mg base 2 "_law_rounds" (spRounds K) := by
  refine cl_mk W.d__law_rounds sc__law_rounds (fun _ _ _ _ _ _ us hl => match us, hl with | [_, _], _ => rfl) (fun vs H Q E h => ?_) (fun f cdv A outer s H vs Q E hr h => ?_)
  · obtain ⟨a, ns, m, rfl, _⟩ := h; rfl
  obtain ⟨a, ns, m, rfl, hS, h63, q⟩ := h
  refine ⟨_, (pss_cons (ps_set (i := 2) sc__law_rounds.nd rfl (Or.inl rfl) (pe_slice sl_list (pv 0) po_none (po_some (pv 1))))
    (pss_cons (ps_if (pt_cmpR (op_eqD (hu64 hr)) (pv 2) (pe_lst pa_nil) (nomark _))
    (pss_one (ps_set (i := 2) sc__law_rounds.nd rfl (Or.inl rfl) (pe_lst (pa_cons pe_int pa_nil))))
    pss_nil)
    (pss_one (ps_ret (pe_lc (own := [("cell", 3)]) rfl sc__law_rounds.nd (pi_list (pv 2)) (blkOk_by (own := [("cell", 3)]) (N := ["script", "most", "cells", "cell"]) (sc := defScope s__law_rounds) (by decide +kernel)) (fun _ _ _ _ _ => (pg_name (i := 3) sc__law_rounds.nd rfl (by first | exact Or.inl rfl | exact Or.inr rfl))) (fun _ _ _ _ _ => pts_nil) (fun _ _ _ _ _ => (pe_cl c__law_dice hr (by first | decide | omega) rfl passL (pa_cons (pv 3) pa_nil)))))))), ?_⟩
  walk_at "g"
  refine ⟨a, _, rfl, hS, fun p1 hp1 => ?_⟩
  obtain ⟨ms, em, hm⟩ := cut_ints ns none (some m)
  rw [em]
  have hz : ms.length ≤ 63 := Nat.le_trans hm h63
  have s1 : Same H (upd H p1 (.lst (ms.map V.int))) := same_new hp1 _
  -- the list is walked
  have rest : ∀ (H1 : Hp) (p : Addr) (zs : List Int), Same H H1 → H1 p = some (.lst (zs.map V.int)) → zs.length ≤ 63 → ∀ (c : Option V),
      tRet (tLc (iList K (tVar 2)) (gName 3) tYes (tCl spDice E0 (tCons (tVar 3) tNil)) (List.map (fun x => x.snd) [((Str.ofString "cell" : Str), 3)])) { nx := fun x H' => Q V.non H', rt := Q } [some (.ref a), some (.int m), some (.ref p), c] H1 := by
    intro H1 p zs e1 hp hzs c
    walk_at "g"
    refine w_lcL (SqL.of hp) (fun D hD => ⟨fun i H2 => ∃ ds : List Addr, ds.length = i ∧ Same H1 H2 ∧ H2 D = some (.lst (ds.map V.ref)) ∧ ∀ d ∈ ds, Dice H2 d ∧ H1 d = none ∧ d ≠ D,
      ⟨[], rfl, same_new hD _, upd_same, fun d hd => by cases hd⟩, fun i H2 _ ⟨ds, _, e, _⟩ => SqL.of (e _ _ hp), ?_, ?_⟩)
    · rintro i x H2 hi ⟨ds, el, e2, eD, hds⟩
      have hi2 : i < zs.length := by
        have := (List.getElem?_eq_some_iff.mp hi).1
        rwa [List.length_map] at this
      obtain ⟨z, rfl⟩ : ∃ z, x = V.int z := by
        rw [List.getElem?_map] at hi
        cases e : zs[i]? with
        | none => rw [e] at hi; cases hi
        | some z => rw [e] at hi; exact ⟨z, (Option.some.inj hi).symm⟩
      walk_at "g"
      refine ⟨rfl, ?_⟩
      walk_at "g"
      refine ⟨z, rfl, fun d a b e hd => ?_⟩
      have nd : D ≠ d := ne_of_none eD hd
      refine ⟨ds.map V.ref, by rw [upd_ne nd]; exact eD, by rw [List.length_map, el]; exact Nat.lt_of_lt_of_le (Nat.lt_of_lt_of_le hi2 hzs) (by decide), ds ++ [d], by rw [List.length_append, el]; rfl, fun b o hb => ?_, by rw [upd_same, List.map_append]; rfl, fun b hb => ?_⟩
      · rw [upd_ne (ne_of_none hb hD), upd_ne (ne_of_none (e2 _ _ hb) hd)]
        exact e2 _ _ hb
      · rcases List.mem_append.mp hb with hb | hb
        · obtain ⟨h1, h2, h3⟩ := hds b hb
          obtain ⟨a', b', c', h1⟩ := h1
          exact ⟨⟨a', b', c', by rw [upd_ne h3, upd_ne (ne_of_none h1 hd)]; exact h1⟩, h2, h3⟩
        · rcases List.mem_singleton.mp hb with rfl
          exact ⟨⟨_, _, _, by rw [upd_ne nd.symm, upd_same]⟩, e2.free hd, nd.symm⟩
    · rintro H2 ⟨ds, el, e2, eD, hds⟩
      rw [List.length_map] at el
      exact q D H2 ds (e1.trans e2) (e1.free hD) eD (fun d hd => ⟨(hds d hd).1, e1.free (hds d hd).2.1⟩) (by omega)
  walk_at "g"
  intro p2 hp2
  refine ⟨_, _, .lst (SqL.of (same_new hp2 _ _ _ upd_same)) (dp_ints ms), .lst (SqL.of upd_same) .nil, shaped_ints ms, rfl, ?_⟩
  rw [eqv_nil]
  walk_at "g"
  have s2 := s1.trans (same_new hp2 (.lst []))
  refine w_iteD (fun c1 => ?_) (fun c1 => ?_)
  · walk_at "g"
    intro p3 hp3
    exact rest _ p3 [0] (s2.trans (same_new hp3 _)) upd_same (by decide) none
  · exact rest _ p1 ms s2 (same_new hp2 _ _ _ upd_same) hz none
end
end K24
end

section
-- part K24M
set_option Elab.async false
set_option linter.all false
set_option maxRecDepth 100000
set_option maxHeartbeats 800000
/-! K24M: conditions and what they ask of keys -/
namespace M24
open PySem PySem.Spec PyProof.Rows L2 Fw M5 Gk
inductive Lf where
  | lit (v : RV) | fld (p : Nat)
deriving DecidableEq
inductive Cd where
  | isn (p : Nat) | cmp (g : Sg) (a b : Lf)
deriving DecidableEq
inductive Tm where
  | cd (c : Cd) | and (a : Tm) (c : Cd)
def isT : RV → Bool
  | .txt _ => true
  | _ => false
def conj : Tm → List Cd
  | .cd c => [c]
  | .and a c => conj a ++ [c]
def dep : Tm → Nat
  | .cd _ => 0
  | .and a _ => dep a + 1
def val (row : List RV) (p : Nat) : RV := row.getD p .non
def lfv (row : List RV) : Lf → RV
  | .lit v => v
  | .fld p => val row p
def cmpV (g : Sg) (u v : RV) : Option Bool := if u = .non ∨ v = .non then none else some (match g with
  | .eq => decide (u = v) | .ne => !decide (u = v) | .lt => vlt u v | .le => !vlt v u | .gt => vlt v u | .ge => !vlt u v)
def cdv (row : List RV) : Cd → Option Bool
  | .isn p => some (!decide (val row p = .non))
  | .cmp g a b => cmpV g (lfv row a) (lfv row b)
def and3 : Option Bool → Option Bool → Option Bool
  | some false, _ => some false
  | _, some false => some false
  | some true, some true => some true
  | _, _ => none
def tmv (row : List RV) : Tm → Option Bool
  | .cd c => cdv row c
  | .and a c => and3 (tmv row a) (cdv row c)
theorem and3_true {x y : Option Bool} : and3 x y = some true ↔ x = some true ∧ y = some true := by
  rcases x with _ | _ | _ <;> rcases y with _ | _ | _ <;> simp [and3]
theorem tmv_true {row : List RV} : ∀ T : Tm, tmv row T = some true ↔ ∀ c ∈ conj T, cdv row c = some true
  | .cd c => by simp [tmv, conj]
  | .and a c => by
    rw [tmv, and3_true, tmv_true a, conj]
    simp only [List.mem_append, List.mem_singleton]
    exact ⟨fun h d hd => hd.elim (h.1 d) fun e => e ▸ h.2, fun h => ⟨fun d hd => h d (.inl hd), h c (.inr rfl)⟩⟩
/-! order of lists -/
theorem _root_.M5.Div.symm {a b : List Int} {lt : Bool} (h : Div a b lt) : Div b a (!lt) := by
  obtain ⟨p, x, y, a', b', rfl, rfl, n, l⟩ := h
  refine ⟨p, y, x, b', a', rfl, rfl, fun e => n e.symm, ?_⟩
  rw [l]
  by_cases c : x < y
  · rw [decide_eq_true c, decide_eq_false (by omega)]; rfl
  · rw [decide_eq_false c, decide_eq_true (by omega)]; rfl
theorem lex_nil (a : List Int) : HT.lexLt a [] = false := by cases a <;> rfl
theorem lex_as : ∀ a b : List Int, HT.lexLt a b = true → HT.lexLt b a = false
  | [], [], h => rfl
  | [], _ :: _, h => rfl
  | _ :: _, [], h => by cases h
  | x :: a, y :: b, h => by
    rw [HT.lexLt_cons] at h ⊢
    by_cases c : x = y
    · rw [if_pos c] at h
      rw [if_pos c.symm]
      exact lex_as a b h
    · rw [if_neg c] at h
      rw [if_neg (fun z => c z.symm)]
      have := of_decide_eq_true h
      exact decide_eq_false (by omega)
theorem lex_ge : ∀ a b c : List Int, HT.lexLt a b = false → HT.lexLt b c = false → HT.lexLt a c = false
  | a, _, [], _, _ => lex_nil a
  | [], [], _ :: _, _, h => by cases h
  | [], _ :: _, _ :: _, h, _ => by cases h
  | _ :: _, [], _ :: _, _, h => by cases h
  | x :: a, y :: b, z :: c, h1, h2 => by
    rw [HT.lexLt_cons] at h1 h2 ⊢
    by_cases e1 : x = y
    · subst e1
      rw [if_pos rfl] at h1
      by_cases e2 : x = z
      · rw [if_pos e2] at h2 ⊢
        exact lex_ge a b c h1 h2
      · rw [if_neg e2] at h2 ⊢
        exact h2
    · rw [if_neg e1] at h1
      have h1' := of_decide_eq_false h1
      by_cases e2 : y = z
      · subst e2
        rw [if_neg e1]
        exact h1
      · rw [if_neg e2] at h2
        have h2' := of_decide_eq_false h2
        rw [if_neg (by omega)]
        exact decide_eq_false (by omega)
theorem lex_tr {a b c : List Int} (h1 : HT.lexLt a b = true) (h2 : HT.lexLt b c = true) : HT.lexLt a c = true := by
  cases e : HT.lexLt a c with
  | true => rfl
  | false => exact absurd (lex_ge b a c (lex_as _ _ h1) e) (by rw [h2]; decide)
theorem lex_pre (p a : List Int) : HT.lexLt (p ++ a) p = false := by
  have := lex_app p a []
  rw [List.append_nil] at this
  rw [this, lex_nil]
/-! the least key above a prefix -/
theorem up_app (p q : List Int) (h : 0 < upLen q) : upLen (p ++ q) = p.length + upLen q := by
  unfold upLen at *
  rw [List.reverse_append, List.dropWhile_append]
  rw [if_neg (by
    intro e
    rw [List.isEmpty_iff] at e
    rw [e] at h
    cases h), List.length_append, List.length_reverse]
  omega
theorem up_pre (p q : List Int) (h : 0 < upLen q) : ∃ x, upper (p ++ q) = some (p ++ x) := by
  rw [upper, up_app p q h, if_neg (by omega)]
  rw [List.take_append, List.take_of_length_le (by omega), List.append_assoc]
  exact ⟨_, rfl⟩
theorem up_tail (d : List Int) : ∀ b ∈ d.drop (upLen d), b = 255 := by
  rw [← List.reverse_reverse d]
  generalize d.reverse = e
  induction e with
  | nil => intro b hb; simp at hb
  | cons c e ih =>
    rw [List.reverse_cons, upLen_snoc]
    split
    · rename_i q
      intro b hb
      rw [List.drop_append] at hb
      rcases List.mem_append.mp hb with hb | hb
      · exact ih b hb
      · have := List.mem_of_mem_drop hb
        rw [List.mem_singleton.mp this]
        exact q
    · intro b hb
      rw [List.drop_of_length_le (by simp)] at hb
      cases hb
theorem up_ge {p s u : List Int} (h : Div p s true) (hs : Byt s) (hu : upper p = some u) : HT.lexLt s u = false := by
  obtain ⟨c, x, y, a, b, rfl, rfl, n, l⟩ := h
  have lt : x < y := of_decide_eq_true l.symm
  have hl := upLen_le (c ++ x :: a)
  rw [upper] at hu
  by_cases h0 : upLen (c ++ x :: a) = 0
  · rw [if_pos h0] at hu; cases hu
  rw [if_neg h0] at hu
  cases hu
  by_cases c1 : c.length < upLen (c ++ x :: a) - 1
  · have e : (c ++ x :: a).take (upLen (c ++ x :: a) - 1) = c ++ x :: a.take (upLen (c ++ x :: a) - 1 - c.length - 1) := by
      rw [List.take_append, List.take_of_length_le (by omega)]
      obtain ⟨k, hk⟩ : ∃ k, upLen (c ++ x :: a) - 1 - c.length = k + 1 := ⟨_, (Nat.succ_pred_eq_of_pos (by omega)).symm⟩
      rw [hk, List.take_succ_cons]
      rfl
    rw [e, List.append_assoc, lex_app, List.cons_append, HT.lexLt_cons, if_neg (by omega)]
    exact decide_eq_false (by omega)
  by_cases c2 : c.length = upLen (c ++ x :: a) - 1
  · rw [← c2, List.take_left, lex_app]
    have eg : (c ++ x :: a).getD c.length 0 = x := by
      rw [List.getD_eq_getElem?_getD, List.getElem?_append_right (Nat.le_refl _), Nat.sub_self]
      rfl
    rw [eg, HT.lexLt_cons]
    by_cases e2 : y = x + 1
    · rw [if_pos e2, lex_nil]
    · rw [if_neg e2]
      exact decide_eq_false (by omega)
  · have hm : x ∈ (c ++ x :: a).drop (upLen (c ++ x :: a)) := by
      rw [List.drop_append_of_le_length (by omega)]
      exact List.mem_append_right _ List.mem_cons_self
    have := up_tail _ x hm
    have := hs y (by simp)
    omega
/-! keys of values -/
def okv (v : RV) : Prop := okV v ∧ match v with | .txt l => l.length ≤ 10 | _ => True
theorem keyV_len {v : RV} (h : okv v) : (keyV v).length ≤ 12 ∧ 0 < (keyV v).length := by
  cases v with
  | non => exact ⟨by decide, by decide⟩
  | txt l =>
    have : l.length ≤ 10 := h.2
    simp only [keyV, List.length_cons, List.length_append, sg, List.length_map, List.length_nil]
    omega
  | num n => simp [keyV, fixed_len]
theorem keyV_byt {v : RV} (h : okV v) : Byt (keyV v) := by
  cases v with
  | non => intro b hb; rw [List.mem_singleton.mp hb]; decide
  | num n =>
    intro b hb
    rcases List.mem_cons.mp hb with rfl | hb
    · decide
    · exact fixed_byt _ _ b hb
  | txt l =>
    intro b hb
    rcases List.mem_cons.mp hb with rfl | hb
    · decide
    · rcases List.mem_append.mp hb with hb | hb
      · obtain ⟨c, hc, rfl⟩ := List.mem_map.mp hb
        have := (sgn_ok (h c hc)).1
        omega
      · rw [List.mem_singleton.mp hb]; decide
theorem keyR_byt {r : List RV} (h : ∀ v ∈ r, okV v) : Byt (keyR r) := by
  intro b hb
  obtain ⟨v, hv, hb⟩ := List.mem_flatMap.mp hb
  exact keyV_byt (h v hv) b hb
theorem keyR_len : ∀ {r : List RV}, (∀ v ∈ r, okv v) → (keyR r).length ≤ 12 * r.length
  | [], _ => Nat.le_refl _
  | v :: r, h => by
    have h1 := keyV_len (h v List.mem_cons_self)
    have h2 := keyR_len (r := r) fun x hx => h x (List.mem_cons_of_mem _ hx)
    show (keyV v ++ keyR r).length ≤ _
    rw [List.length_append, List.length_cons]
    omega
theorem keyR_app (a b : List RV) : keyR (a ++ b) = keyR a ++ keyR b := by simp [keyR]
theorem up_key (v : RV) : 0 < upLen (keyV v) := by
  have : ∃ b ∈ keyV v, b ≠ 255 := by
    cases v with
    | non => exact ⟨1, List.mem_cons_self, by decide⟩
    | txt l => exact ⟨3, List.mem_cons_self, by decide⟩
    | num n => exact ⟨2, List.mem_cons_self, by decide⟩
  obtain ⟨b, hb, hn⟩ := this
  exact upLen_pos hb hn
theorem up_keyR {es : List RV} (h : es ≠ []) : 0 < upLen (keyR es) := by
  rw [← List.dropLast_concat_getLast h, keyR_app]
  have e : keyR [es.getLast h] = keyV (es.getLast h) := by simp [keyR]
  rw [e, up_app _ _ (up_key _)]
  have := up_key (es.getLast h)
  omega
theorem vlt_ir (v : RV) : vlt v v = false := by
  cases v with
  | non => rfl
  | num n => exact decide_eq_false (by omega)
  | txt l => exact decide_eq_false (List.lt_irrefl l)
theorem vlt_ne {u v : RV} (hu : okV u) (hv : okV v) (h : u ≠ v) : vlt v u = !vlt u v := by
  have h1 := (key_div u v hu hv h).symm.lex
  have h2 := (key_div v u hv hu (fun e => h e.symm)).lex
  rw [← h1, h2]
/-! bounds -/
abbrev Bd := List RV × Option (Sg × RV) × Option (Sg × RV)
def isLow (g : Sg) : Bool := decide (g = .gt ∨ g = .ge)
def isHigh (g : Sg) : Bool := decide (g = .lt ∨ g = .le)
def isEq (g : Sg) : Bool := decide (g = .eq)
abbrev Side := Nat × Sg × RV
def here (ks : List Side) (p : Nat) : List (Sg × RV) := (ks.filter fun s => decide (s.1 = p)).map (·.2)
def firstB (f : Sg → Bool) (l : List (Sg × RV)) : Option (Sg × RV) := l.find? fun s => f s.1
def askB (ks : List Side) : List Nat → Bd
  | [] => ([], none, none)
  | p :: ps => match firstB isEq (here ks p) with
    | none => ([], firstB isLow (here ks p), firstB isHigh (here ks p))
    | some s => (s.2 :: (askB ks ps).1, (askB ks ps).2)
def nullB : Option (Sg × RV) → Bool
  | some (_, v) => decide (v = .non)
  | none => false
def kend (pre : List Int) (g : Sg) (v : RV) : Option (List Int) := if g = .gt ∨ g = .le then upper (pre ++ keyV v) else some (pre ++ keyV v)
def lowOf (pre : List Int) : Option (Sg × RV) → Option (List Int)
  | none => some pre
  | some (g, v) => kend pre g v
def highOf (pre : List Int) : Option (Sg × RV) → Option (List Int)
  | none => upper pre
  | some (g, v) => kend pre g v
def krange (b : Bd) : Option (List Int × Option (List Int)) :=
  if (b.1.any fun v => decide (v = .non)) = true then none
  else if nullB b.2.1 = true then none
  else if nullB b.2.2 = true then none
  else match lowOf (keyR b.1) b.2.1 with
    | none => none
    | some l => match highOf (keyR b.1) b.2.2 with
      | none => some (l, none)
      | some h => if (!HT.lexLt l h) = true then none else some (l, some h)
theorem kend_pre (pre : List Int) (g : Sg) (v : RV) : ∃ x, kend pre g v = some (pre ++ x) := by
  unfold kend
  split
  · exact up_pre _ _ (up_key v)
  · exact ⟨_, rfl⟩
theorem low_pre (pre : List Int) (o : Option (Sg × RV)) : ∃ x, lowOf pre o = some (pre ++ x) := by
  rcases o with _ | ⟨g, v⟩
  · exact ⟨[], by rw [List.append_nil]; rfl⟩
  · exact kend_pre pre g v
/-- a value meets a bound -/
def Meets1 (g : Sg) (u v : RV) : Prop := okV u ∧ okV v ∧ cmpV g u v = some true
theorem low_ok {pre tl : List Int} {g : Sg} {u v : RV} {l : List Int} (hg : isLow g = true) (m : Meets1 g u v) (ht : Byt (keyV u ++ tl)) (hp : Byt pre) (hl : kend pre g v = some l) : HT.lexLt (pre ++ (keyV u ++ tl)) l = false := by
  obtain ⟨hu, hv, hc⟩ := m
  unfold cmpV at hc
  split at hc
  · cases hc
  have dv : u ≠ v → Div (pre ++ keyV v) (pre ++ (keyV u ++ tl)) (vlt v u) := fun ne => by
    have := ((key_div v u hv hu (fun e => ne e.symm)).app [] tl).pre pre
    rwa [List.append_nil] at this
  rcases of_decide_eq_true hg with rfl | rfl
  · have hc : vlt v u = true := Option.some.inj hc
    have ne : u ≠ v := fun e => by rw [e, vlt_ir] at hc; cases hc
    rw [kend, if_pos (.inl rfl)] at hl
    have d := dv ne
    rw [hc] at d
    exact up_ge d (byt_app hp ht) hl
  · have hc : (!vlt u v) = true := Option.some.inj hc
    rw [kend, if_neg (by decide)] at hl
    cases hl
    by_cases e : u = v
    · subst e
      rw [← List.append_assoc]
      exact lex_pre _ _
    · have d := dv e
      rw [vlt_ne hu hv e, hc] at d
      exact lex_as _ _ d.lex
theorem high_ok {pre tl : List Int} {g : Sg} {u v : RV} {l : List Int} (hg : isHigh g = true) (m : Meets1 g u v) (hl : kend pre g v = some l) : HT.lexLt (pre ++ (keyV u ++ tl)) l = true := by
  obtain ⟨hu, hv, hc⟩ := m
  unfold cmpV at hc
  split at hc
  · cases hc
  have dv : u ≠ v → HT.lexLt (pre ++ (keyV u ++ tl)) (pre ++ keyV v) = vlt u v := fun ne => by
    have := ((key_div u v hu hv ne).app tl []).pre pre
    rw [List.append_nil] at this
    exact this.lex
  rcases of_decide_eq_true hg with rfl | rfl
  · have hc : vlt u v = true := Option.some.inj hc
    have ne : u ≠ v := fun e => by rw [e, vlt_ir] at hc; cases hc
    rw [kend, if_neg (by decide)] at hl
    cases hl
    rw [dv ne, hc]
  · have hc : (!vlt v u) = true := Option.some.inj hc
    rw [kend, if_pos (.inr rfl)] at hl
    have hp : 0 < upLen (pre ++ keyV v) := by rw [up_app _ _ (up_key v)]; have := up_key v; omega
    by_cases e : u = v
    · subst e
      obtain ⟨x, h1, h2, _⟩ := upper_ok hp tl
      rw [hl] at h1
      cases h1
      rw [← List.append_assoc]
      exact h2
    · obtain ⟨x, h1, h2, _⟩ := upper_ok hp []
      rw [hl] at h1
      cases h1
      rw [List.append_nil] at h2
      refine lex_tr ?_ h2
      rw [dv e]
      rw [vlt_ne hu hv e] at hc
      simpa using hc
/-- what a row that meets the bounds' conditions has there -/
def BdMeets (rest : List RV) (f : Sg → Bool) (o : Option (Sg × RV)) : Prop := ∀ g v, o = some (g, v) → f g = true ∧ ∃ u r, rest = u :: r ∧ Meets1 g u v
theorem null_no {rest : List RV} {f : Sg → Bool} {o : Option (Sg × RV)} (h : BdMeets rest f o) : nullB o = false := by
  rcases o with _ | ⟨g, v⟩
  · rfl
  · obtain ⟨_, u, r, _, _, _, hc⟩ := h g v rfl
    unfold cmpV at hc
    split at hc
    · cases hc
    · rename_i n
      exact decide_eq_false fun e => n (.inr e)
theorem meets_in {es rest : List RV} {lo hi : Option (Sg × RV)} {tl : List Int} (he : ∀ v ∈ es, v ≠ .non ∧ okV v) (hr : ∀ v ∈ rest, okV v) (ht : Byt tl) (hlo : BdMeets rest isLow lo) (hhi : BdMeets rest isHigh hi) :
    ∃ l h, krange (es, lo, hi) = some (l, h) ∧ HT.lexLt (keyR (es ++ rest) ++ tl) l = false ∧ ∀ x, h = some x → HT.lexLt (keyR (es ++ rest) ++ tl) x = true := by
  have e1 : (es.any fun v => decide (v = .non)) = false := by
    rw [List.any_eq_false]
    intro v hv
    simpa using (he v hv).1
  have hpre : Byt (keyR es) := keyR_byt fun v hv => (he v hv).2
  have ek : keyR (es ++ rest) ++ tl = keyR es ++ (keyR rest ++ tl) := by rw [keyR_app, List.append_assoc]
  have cons : ∀ u r, rest = u :: r → keyR rest ++ tl = keyV u ++ (keyR r ++ tl) := fun u r e => by rw [e, ← List.append_assoc]; rfl
  have hbt : Byt (keyR rest ++ tl) := byt_app (keyR_byt hr) ht
  obtain ⟨x, hx⟩ := low_pre (keyR es) lo
  have hlow : HT.lexLt (keyR es ++ (keyR rest ++ tl)) (keyR es ++ x) = false := by
    rcases lo with _ | ⟨g, v⟩
    · have hx2 : keyR es = keyR es ++ x := Option.some.inj hx
      rw [← hx2]
      exact lex_pre _ _
    · obtain ⟨hg, u, r, e, m⟩ := hlo g v rfl
      rw [cons u r e]
      exact low_ok hg m (by rw [← cons u r e]; exact hbt) hpre hx
  have hhigh : ∀ y, highOf (keyR es) hi = some y → HT.lexLt (keyR es ++ (keyR rest ++ tl)) y = true := by
    intro y hy
    rcases hi with _ | ⟨g, v⟩
    · have h0 : 0 < upLen (keyR es) := by
        refine Nat.pos_of_ne_zero fun z => ?_
        have hy2 : upper (keyR es) = some y := hy
        rw [upper, if_pos z] at hy2
        cases hy2
      obtain ⟨u, h1, h2, _⟩ := upper_ok h0 (keyR rest ++ tl)
      have hy2 : upper (keyR es) = some y := hy
      rw [h1] at hy2
      cases hy2
      exact h2
    · obtain ⟨hg, u, r, e, m⟩ := hhi g v rfl
      rw [cons u r e]
      exact high_ok hg m hy
  rw [ek]
  unfold krange
  simp only [e1, null_no hlo, null_no hhi, hx, Bool.false_eq_true, if_false]
  cases hh : highOf (keyR es) hi with
  | none => exact ⟨_, _, rfl, hlow, fun x z => by cases z⟩
  | some y =>
    have hy := hhigh y hh
    have lt : HT.lexLt (keyR es ++ x) y = true := by
      cases e : HT.lexLt (keyR es ++ x) y with
      | true => rfl
      | false => exact absurd (lex_ge _ _ _ hlow e) (by rw [hy]; decide)
    simp only [lt, Bool.not_true, Bool.false_eq_true, if_false]
    exact ⟨_, _, rfl, hlow, fun z hz => by cases hz; exact hy⟩
theorem inside_eq {b : Bd} {l : List Int} {h : Option (List Int)} {vals : List RV} {tl : List Int} (hk : krange b = some (l, h)) (he : ∀ v ∈ b.1, okV v) (hv : ∀ v ∈ vals, okV v) (ht : Byt tl) (hl : b.1.length ≤ vals.length)
    (h1 : HT.lexLt (keyR vals ++ tl) l = false) (h2 : ∀ x, h = some x → HT.lexLt (keyR vals ++ tl) x = true) : vals.take b.1.length = b.1 ∧ ∀ v ∈ b.1, v ≠ .non := by
  obtain ⟨es, lo, hi⟩ := b
  unfold krange at hk
  by_cases n1 : (es.any fun v => decide (v = .non)) = true
  · rw [if_pos n1] at hk; cases hk
  rw [if_neg n1] at hk
  by_cases n2 : nullB lo = true
  · rw [if_pos n2] at hk; cases hk
  rw [if_neg n2] at hk
  by_cases n3 : nullB hi = true
  · rw [if_pos n3] at hk; cases hk
  rw [if_neg n3] at hk
  have nn : ∀ v ∈ es, v ≠ .non := fun v hv e => n1 (List.any_eq_true.mpr ⟨v, hv, decide_eq_true e⟩)
  refine ⟨?_, nn⟩
  by_cases ee : es = []
  · subst ee; rfl
  refine Classical.byContradiction fun ne => ?_
  obtain ⟨x, hx⟩ := low_pre (keyR es) lo
  simp only [hx] at hk
  have lt : (vals.take es.length).length = es.length := by rw [List.length_take]; exact Nat.min_eq_left hl
  have ek : keyR vals ++ tl = keyR (vals.take es.length) ++ (keyR (vals.drop es.length) ++ tl) := by rw [← List.append_assoc, ← keyR_app, List.take_append_drop]
  have D := row_div (vals.take es.length) es lt (fun v hv' => hv v (List.mem_of_mem_take hv')) he ne
  have hb : Byt (keyR vals ++ tl) := byt_app (keyR_byt hv) ht
  rw [ek] at h1 h2 hb
  generalize keyR (vals.drop es.length) ++ tl = r at h1 h2 hb
  have le : l = keyR es ++ x := by
    cases hh : highOf (keyR es) hi with
    | none => rw [hh] at hk; cases hk; rfl
    | some y =>
      simp only [hh] at hk
      split at hk
      · cases hk
      · cases hk; rfl
  rw [le, (D.app r x).lex] at h1
  rw [h1] at D
  have hh : highOf (keyR es) hi = h := by
    cases hh : highOf (keyR es) hi with
    | none => rw [hh] at hk; cases hk; rfl
    | some y =>
      simp only [hh] at hk
      split at hk
      · cases hk
      · cases hk; rfl
  rcases hi with _ | ⟨g, v⟩
  · obtain ⟨u, h3, _⟩ := upper_ok (up_keyR ee) []
    have h4 : upper (keyR es) = h := hh
    rw [h3] at h4
    have := h2 u h4.symm
    have Ds := (D.symm.app [] r)
    rw [List.append_nil] at Ds
    rw [up_ge Ds hb h3] at this
    cases this
  · obtain ⟨y, hy⟩ := kend_pre (keyR es) g v
    have h4 : kend (keyR es) g v = h := hh
    rw [hy] at h4
    have := h2 _ h4.symm
    rw [(D.app r y).lex] at this
    cases this
/-! what a condition asks -/
def sideOf : Cd → Option Side
  | .cmp g (.fld p) (.lit v) => if g = .ne then none else some (p, g, v)
  | .cmp g (.lit v) (.fld p) => if g = .ne then none else some (p, turn g, v)
  | _ => none
theorem cmp_turn {g : Sg} {u v : RV} (h : cmpV g u v = some true) : cmpV (turn g) v u = some true := by
  unfold cmpV at h ⊢
  split at h
  · cases h
  · rename_i n
    rw [if_neg (fun z => n z.symm)]
    cases g
    · have h1 : decide (u = v) = true := Option.some.inj h
      show some (decide (v = u)) = some true
      rw [decide_eq_true (of_decide_eq_true h1).symm]
    · have h1 : (!decide (u = v)) = true := Option.some.inj h
      show some (!decide (v = u)) = some true
      have h2 : ¬ u = v := by simpa using h1
      rw [decide_eq_false (fun z => h2 z.symm)]
      rfl
    · exact h
    · exact h
    · exact h
    · exact h
theorem side_meets {row : List RV} {c : Cd} {s : Side} (h : sideOf c = some s) (m : cdv row c = some true) : cmpV s.2.1 (val row s.1) s.2.2 = some true := by
  cases c with
  | isn p => cases h
  | cmp g a b =>
    cases a with
    | lit v =>
      cases b with
      | lit u => cases h
      | fld p =>
        have h2 : (if g = .ne then none else some (p, turn g, v)) = some s := h
        by_cases c : g = .ne
        · rw [if_pos c] at h2; cases h2
        · rw [if_neg c] at h2; cases h2; exact cmp_turn m
    | fld p =>
      cases b with
      | fld q => cases h
      | lit v =>
        have h2 : (if g = .ne then none else some (p, g, v)) = some s := h
        by_cases c : g = .ne
        · rw [if_pos c] at h2; cases h2
        · rw [if_neg c] at h2; cases h2; exact m
theorem here_in {ks : List Side} {p : Nat} {g : Sg} {v : RV} (h : (g, v) ∈ here ks p) : (p, g, v) ∈ ks := by
  obtain ⟨⟨q, s⟩, h1, h2⟩ := List.mem_map.mp h
  obtain ⟨h3, h4⟩ := List.mem_filter.mp h1
  have h5 : q = p := of_decide_eq_true h4
  have h6 : s = (g, v) := h2
  rw [h5, h6] at h3
  exact h3
theorem first_in {f : Sg → Bool} {l : List (Sg × RV)} {s : Sg × RV} (h : firstB f l = some s) : s ∈ l ∧ f s.1 = true := ⟨List.mem_of_find?_eq_some h, List.find?_some (p := fun s : Sg × RV => f s.1) h⟩
theorem ask_len (ks : List Side) : ∀ ps : List Nat, (askB ks ps).1.length ≤ ps.length
  | [] => Nat.le_refl _
  | p :: ps => by
    rw [askB]
    split
    · exact Nat.zero_le _
    · exact Nat.succ_le_succ (ask_len ks ps)
theorem ask_in (ks : List Side) : ∀ ps : List Nat, (∀ v ∈ (askB ks ps).1, ∃ p, (p, .eq, v) ∈ ks) ∧ (∀ g v, (askB ks ps).2.1 = some (g, v) → isLow g = true ∧ ∃ p, (p, g, v) ∈ ks) ∧ ∀ g v, (askB ks ps).2.2 = some (g, v) → isHigh g = true ∧ ∃ p, (p, g, v) ∈ ks
  | [] => ⟨fun v hv => (by cases hv), fun g v h => (by cases h), fun g v h => (by cases h)⟩
  | p :: ps => by
    rw [askB]
    cases e : firstB isEq (here ks p) with
    | none => exact ⟨fun v hv => (by cases hv), fun g v h => ⟨(first_in h).2, p, here_in (first_in h).1⟩, fun g v h => ⟨(first_in h).2, p, here_in (first_in h).1⟩⟩
    | some s =>
      obtain ⟨i1, i2, i3⟩ := ask_in ks ps
      refine ⟨fun v hv => ?_, i2, i3⟩
      rcases List.mem_cons.mp hv with rfl | hv
      · have h1 := here_in (first_in (s := (s.1, s.2)) e).1
        have h2 : s.1 = .eq := of_decide_eq_true (first_in e).2
        rw [h2] at h1
        exact ⟨p, h1⟩
      · exact i1 v hv
/-- a row that meets all sides: its values at the places begin with the equals, the bounds hold at the next -/
theorem ask_meets {ks : List Side} {vl : Nat → RV} (hu : ∀ p, okV (vl p)) (hk : ∀ s ∈ ks, okV s.2.2 ∧ cmpV s.2.1 (vl s.1) s.2.2 = some true) : ∀ ps : List Nat,
    ∃ rest, ps.map vl = (askB ks ps).1 ++ rest ∧ (∀ v ∈ (askB ks ps).1, v ≠ .non ∧ okV v) ∧ BdMeets rest isLow (askB ks ps).2.1 ∧ BdMeets rest isHigh (askB ks ps).2.2
  | [] => ⟨[], rfl, fun v hv => (by cases hv), fun g v h => (by cases h), fun g v h => (by cases h)⟩
  | p :: ps => by
    rw [askB]
    cases e : firstB isEq (here ks p) with
    | none =>
      refine ⟨(p :: ps).map vl, rfl, fun v hv => (by cases hv), fun g v h => ?_, fun g v h => ?_⟩
      · obtain ⟨h1, h2⟩ := first_in h
        obtain ⟨h3, h4⟩ := hk _ (here_in h1)
        exact ⟨h2, vl p, ps.map vl, rfl, hu p, h3, h4⟩
      · obtain ⟨h1, h2⟩ := first_in h
        obtain ⟨h3, h4⟩ := hk _ (here_in h1)
        exact ⟨h2, vl p, ps.map vl, rfl, hu p, h3, h4⟩
    | some s =>
      obtain ⟨rest, h1, h2, h3, h4⟩ := ask_meets hu hk ps
      obtain ⟨i1, i2⟩ := first_in e
      have i3 : s.1 = .eq := of_decide_eq_true i2
      obtain ⟨i4, i5⟩ := hk _ (here_in (g := s.1) (v := s.2) i1)
      have i6 : cmpV .eq (vl p) s.2 = some true := by rw [← i3]; exact i5
      unfold cmpV at i6
      split at i6
      · cases i6
      · rename_i n
        have i7 : vl p = s.2 := of_decide_eq_true (Option.some.inj i6)
        refine ⟨rest, ?_, fun v hv => ?_, h3, h4⟩
        · rw [List.map_cons, h1, i7]
          rfl
        · rcases List.mem_cons.mp hv with rfl | hv
          · exact ⟨fun z => n (.inr z), i4⟩
          · exact h2 v hv
end M24
end

section
-- part K24B0
set_option Elab.async false
set_option linter.all false
set_option maxRecDepth 100000
set_option maxHeartbeats 800000
open PySem PySem.Spec PyProof.Rows L2 Fw
local macro_rules | `(tactic| walk_at "e1") => `(tactic| first
  | ((with_reducible refine' w_var ?hv ?_); (case hv => rfl))
  | with_reducible refine w_c ?_
  | with_reducible refine w_op ?_
  | with_reducible refine w_un ?_
  | with_reducible refine w_cons ?_
  | with_reducible refine w_nil ?_
  | with_reducible refine w_cl ?_
  | with_reducible refine w_cb ?_
  | with_reducible refine w_gname ?_
  | with_reducible refine w_gsub ?_
  | with_reducible refine w_test ?_
  | with_reducible refine w_B ?_
  | with_reducible refine w_bl ?_
  | with_reducible refine w_and ?_
  | with_reducible refine w_or ?_
  | with_reducible refine w_not ?_
  | with_reducible refine w_if ?_
  | with_reducible refine w_I0 ?_
  | with_reducible refine Gk.w_rU ?_
  | with_reducible refine Dq.w_orV ?_
  | with_reducible refine Dq.w_js ?_
  | with_reducible refine Dq.w_js0 ?_
  | with_reducible refine Dq.w_fm ?_
  | with_reducible refine Dq.w_andV ?_
  | with_reducible refine Gk.w_iEnum ?_
  | with_reducible refine Dq.w_dget ?_
  | with_reducible refine Dq.w_dpop1 ?_
  | with_reducible refine Dq.w_ddel ?_
  | with_reducible refine Dq.w_din ?_
  | with_reducible refine Dq.w_dnotin ?_
  | with_reducible refine Dq.w_dget2 ?_
  | with_reducible refine Dq.w_dnew ?_
  | with_reducible refine Dq.w_fldaug ?_
  | with_reducible refine Dq.w_aSub ?_
  | with_reducible refine Dq.w_aAdd ?_
  | with_reducible refine Dq.w_mkd ?_
  | with_reducible refine Dq.w_notN0 ?_
  | with_reducible refine Dq.w_isN0 ?_
  | with_reducible refine Ftw.w_isTI ?_
  | with_reducible refine Ftw.w_isTS ?_
  | with_reducible refine Ftw.w_isTR ?_
  | with_reducible refine Ftw.w_isTN ?_
  | with_reducible refine Ftw.w_isTtt ?_
  | with_reducible refine Ftw.w_isTft ?_
  | with_reducible refine Ftw.w_isTtf ?_
  | with_reducible refine Ftw.w_isNS ?_
  | with_reducible refine Ftw.w_isNB ?_
  | ((with_reducible refine' Ftw.w_isiRS ?hq ?_); (case hq => assumption))
  | ((with_reducible refine' Ftw.w_isiRT ?hq ?_); (case hq => assumption))
  | ((with_reducible refine' Ftw.w_isiRI ?hq ?_); (case hq => assumption))
  | with_reducible refine Ftw.w_isiIT ?_
  | with_reducible refine Ftw.w_isiII ?_
  | with_reducible refine Dq.w_notNR ?_
  | with_reducible refine Dq.w_isNR ?_
  | with_reducible refine Dq.w_notNI ?_
  | with_reducible refine Dq.w_isNI ?_
  | with_reducible refine L2.w_neOs ?_
  | with_reducible refine w_ipI ?_
  | with_reducible refine w_eqS ?_
  | with_reducible refine w_neS ?_
  | with_reducible refine w_eqI ?_
  | with_reducible refine w_neI ?_
  | with_reducible refine w_eqB ?_
  | with_reducible refine w_neB ?_
  | ((with_reducible refine w_eq ?hs ?_); (case hs => rfl))
  | ((with_reducible refine w_ne ?hs ?_); (case hs => rfl))
  | with_reducible refine w_fld ?_
  | with_reducible refine w_bm ?_
  | with_reducible refine w_bm0 ?_
  | with_reducible refine w_sl ?_
  | with_reducible refine w_part ?_
  | with_reducible refine w_partI ?_
  | with_reducible refine w_nopart ?_
  | ((with_reducible refine' w_ixL ?hh ?ha ?_); (case hh => first | assumption | exact upd_same); (case ha => rfl))
  | ((with_reducible refine' w_setLu ?ha ?_); (case ha => rfl))
  | ((with_reducible refine' w_setL ?hh ?ha ?_); (case hh => first | assumption | exact upd_same); (case ha => rfl))
  | with_reducible refine w_iteT ?_
  | with_reducible refine w_iteF ?_
  | with_reducible refine w_lst ?_
  | with_reducible refine w_tup ?_
  | ((with_reducible refine w_new ?hz ?_); (case hz => rfl))
  | with_reducible refine w_lc ?_
  | with_reducible refine w_iL ?_
  | with_reducible refine w_iT ?_
  | with_reducible refine w_iR1 ?_
  | with_reducible refine w_iR2 ?_
  | with_reducible refine w_yes ?_
  | with_reducible refine w_iStr ?_
  | with_reducible exact tyS
  | with_reducible refine And.intro tyS ?_
  | ((with_reducible refine w_find3 ?_); (first | rw [find3_one] | rw [starts3] | skip))
  | ((with_reducible refine w_2s ?_); (try rw [find_one]))
  | ((with_reducible refine w_inS ?_); rw [S_list])
  | ((with_reducible refine w_lenS ?hz ?_); (case hz => first | assumption | omega | decide); rw [SX.S_len])
  | ((with_reducible refine w_addS ?hz ?_); (case hz => first | assumption | omega | decide); rw [vS_cat])
  | with_reducible refine w_mk ?_
  | with_reducible refine w_me ?_
  | with_reducible refine w_sfld ?_
  | ((with_reducible refine' w_gtup ?hh ?hn ?_); (case hh => first | assumption | exact upd_same); (case hn => rfl))
  | with_reducible refine w_gcons ?_
  | with_reducible refine w_gnil ?_
  | with_reducible refine w_repl ?_
  | with_reducible refine w_star ?_
  | with_reducible refine w_revL ?_
  | with_reducible refine w_isiS ?_
  | with_reducible refine w_isiI ?_
  | with_reducible refine w_isiN ?_
  | with_reducible refine w_chain ?_
  | with_reducible refine w_iEnumT ?_
  | with_reducible refine w_iZip3 ?_
  | with_reducible refine w_iZip ?_
  | with_reducible refine w_lenR3 ?_
  | with_reducible refine w_x1i ?_
  | with_reducible refine w_x1b ?_
  | with_reducible refine w_x1s ?_
  | with_reducible refine w_int1i ?_
  | with_reducible refine w_int1b ?_
  | ((with_reducible refine w_mod ?hc ?_); (case hc => omega))
  | ((with_reducible refine w_fdivW ?hc ?hd ?_); (case hc => omega); (case hd => omega))
  | ((with_reducible refine w_mul ?hc ?_); (case hc => first | exact Or.inr ⟨by decide, by decide⟩ | exact Or.inl ⟨by decide, by decide⟩))
  | ((with_reducible refine w_pow ?hc ?_); (case hc => exact ⟨by decide, by decide, by decide⟩)))
local macro_rules | `(tactic| walk_at "s1") => `(tactic| first
  | with_reducible refine w_seq ?_
  | with_reducible refine w_asg ?_
  | with_reducible refine w_ret ?_
  | with_reducible refine w_par ?_
  | with_reducible refine w_drop ?_
  | with_reducible refine w_next ?_
  | with_reducible refine w_ifs ?_
  | ((with_reducible refine' w_aug ?hv ?_); (case hv => rfl))
  | with_reducible refine w_for ?_
  | walk_at "e1")
local macro_rules | `(tactic| walk_at "e") => `(tactic| repeat walk_at "e1")
local macro_rules | `(tactic| walk_at "g") => `(tactic| repeat walk_at "s1")
local macro_rules | `(tactic| walk_at "n1") => `(tactic| ((fail_if_success (with_reducible refine w_if ?_)); walk_at "s1"))
local macro_rules | `(tactic| walk_at "n") => `(tactic| repeat walk_at "n1")

namespace K24
open Dc Gk M24 M5
-- kind_of: 0:value
theorem sc_kind_of : FnScope ["value"] ["value"] (defScope s_kind_of) := ⟨rfl, rfl, rfl, by decide +kernel, rfl, by decide +kernel, by decide +kernel⟩
-- same_kind: 0:one 1:other
theorem sc_same_kind : FnScope ["one", "other"] ["one", "other"] (defScope s_same_kind) := ⟨rfl, rfl, rfl, by decide +kernel, rfl, by decide +kernel, by decide +kernel⟩
-- compare: 0:sign 1:one 2:other
theorem sc_compare : FnScope ["sign", "one", "other"] ["sign", "one", "other"] (defScope s_compare) := ⟨rfl, rfl, rfl, by decide +kernel, rfl, by decide +kernel, by decide +kernel⟩
-- both: 0:one 1:other
theorem sc_both : FnScope ["one", "other"] ["one", "other"] (defScope s_both) := ⟨rfl, rfl, rfl, by decide +kernel, rfl, by decide +kernel, by decide +kernel⟩
-- negated: 0:truth
theorem sc_negated : FnScope ["truth"] ["truth"] (defScope s_negated) := ⟨rfl, rfl, rfl, by decide +kernel, rfl, by decide +kernel, by decide +kernel⟩
-- sign_number: 0:sign 1:place
theorem sc_sign_number : FnScope ["sign", "place"] ["sign"] (defScope s_sign_number) := ⟨rfl, rfl, rfl, by decide +kernel, rfl, by decide +kernel, by decide +kernel⟩
-- fixed: 0:number 1:many 2:data 3:_
theorem sc_fixed : FnScope ["number", "many", "data", "_"] ["number", "many"] (defScope s_fixed) := ⟨rfl, rfl, rfl, by decide +kernel, rfl, by decide +kernel, by decide +kernel⟩
-- key_of_value: 0:value 1:signs 2:sign
theorem sc_key_of_value : FnScope ["value", "signs", "sign"] ["value"] (defScope s_key_of_value) := ⟨rfl, rfl, rfl, by decide +kernel, rfl, by decide +kernel, by decide +kernel⟩
-- key_of: 0:values 1:data 2:value
theorem sc_key_of : FnScope ["values", "data", "value"] ["values"] (defScope s_key_of) := ⟨rfl, rfl, rfl, by decide +kernel, rfl, by decide +kernel, by decide +kernel⟩
-- upper_key: 0:prefix 1:many
theorem sc_upper_key : FnScope ["prefix", "many"] ["prefix"] (defScope s_upper_key) := ⟨rfl, rfl, rfl, by decide +kernel, rfl, by decide +kernel, by decide +kernel⟩
-- input_place: 0:plan
theorem sc_input_place : FnScope ["plan"] ["plan"] (defScope s_input_place) := ⟨rfl, rfl, rfl, by decide +kernel, rfl, by decide +kernel, by decide +kernel⟩
-- inputs: 0:plan
theorem sc_inputs : FnScope ["plan"] ["plan"] (defScope s_inputs) := ⟨rfl, rfl, rfl, by decide +kernel, rfl, by decide +kernel, by decide +kernel⟩
-- own_plans: 0:tree
theorem sc_own_plans : FnScope ["tree"] ["tree"] (defScope s_own_plans) := ⟨rfl, rfl, rfl, by decide +kernel, rfl, by decide +kernel, by decide +kernel⟩
-- part_places: 0:tree
theorem sc_part_places : FnScope ["tree"] ["tree"] (defScope s_part_places) := ⟨rfl, rfl, rfl, by decide +kernel, rfl, by decide +kernel, by decide +kernel⟩
-- bound_parts: 0:tree 1:arms 2:arm 3:part 4:start 5:end
theorem sc_bound_parts : FnScope ["tree", "arms", "arm", "part", "start", "end"] ["tree"] (defScope s_bound_parts) := ⟨rfl, rfl, rfl, by decide +kernel, rfl, by decide +kernel, by decide +kernel⟩
-- reads: 0:tree 1:found 2:waiting 3:part 4:deep 5:one 6:plan 7:operation
theorem sc_reads : FnScope ["tree", "found", "waiting", "part", "deep", "one", "plan", "operation"] ["tree"] (defScope s_reads) := ⟨rfl, rfl, rfl, by decide +kernel, rfl, by decide +kernel, by decide +kernel⟩
-- fields_in: 0:tree 1:up 2:level 3:place
theorem sc_fields_in : FnScope ["tree", "up", "level", "place"] ["tree", "up"] (defScope s_fields_in) := ⟨rfl, rfl, rfl, by decide +kernel, rfl, by decide +kernel, by decide +kernel⟩
-- Evaluator.__init__: 0:self 1:source 2:rows
theorem sc_Evaluator___init__ : FnScope ["self", "source", "rows"] ["self", "source", "rows"] (defScope s_Evaluator___init__) := ⟨rfl, rfl, rfl, by decide +kernel, rfl, by decide +kernel, by decide +kernel⟩
-- Evaluator.within: 0:self 1:row 2:inner
theorem sc_Evaluator_within : FnScope ["self", "row", "inner"] ["self", "row"] (defScope s_Evaluator_within) := ⟨rfl, rfl, rfl, by decide +kernel, rfl, by decide +kernel, by decide +kernel⟩
-- Evaluator.value_of: 0:self 1:tree 2:form
theorem sc_Evaluator_value_of : FnScope ["self", "tree", "form"] ["self", "tree"] (defScope s_Evaluator_value_of) := ⟨rfl, rfl, rfl, by decide +kernel, rfl, by decide +kernel, by decide +kernel⟩
-- null_value: 0:_ 1:tree
theorem sc_null_value : FnScope ["_", "tree"] ["_", "tree"] (defScope s_null_value) := ⟨rfl, rfl, rfl, by decide +kernel, rfl, by decide +kernel, by decide +kernel⟩
-- known_value: 0:_ 1:tree
theorem sc_known_value : FnScope ["_", "tree"] ["_", "tree"] (defScope s_known_value) := ⟨rfl, rfl, rfl, by decide +kernel, rfl, by decide +kernel, by decide +kernel⟩
-- field_value: 0:evaluator 1:tree 2:_ 3:up 4:place
theorem sc_field_value : FnScope ["evaluator", "tree", "_", "up", "place"] ["evaluator", "tree"] (defScope s_field_value) := ⟨rfl, rfl, rfl, by decide +kernel, rfl, by decide +kernel, by decide +kernel⟩
-- comparison_truth: 0:evaluator 1:tree
theorem sc_comparison_truth : FnScope ["evaluator", "tree"] ["evaluator", "tree"] (defScope s_comparison_truth) := ⟨rfl, rfl, rfl, by decide +kernel, rfl, by decide +kernel, by decide +kernel⟩
-- and_truth: 0:evaluator 1:tree 2:one
theorem sc_and_truth : FnScope ["evaluator", "tree", "one"] ["evaluator", "tree"] (defScope s_and_truth) := ⟨rfl, rfl, rfl, by decide +kernel, rfl, by decide +kernel, by decide +kernel⟩
-- asked: 0:truth 1:is_negated
theorem sc_asked : FnScope ["truth", "is_negated"] ["truth", "is_negated"] (defScope s_asked) := ⟨rfl, rfl, rfl, by decide +kernel, rfl, by decide +kernel, by decide +kernel⟩
-- isnull_truth: 0:evaluator 1:tree
theorem sc_isnull_truth : FnScope ["evaluator", "tree"] ["evaluator", "tree"] (defScope s_isnull_truth) := ⟨rfl, rfl, rfl, by decide +kernel, rfl, by decide +kernel, by decide +kernel⟩
-- bound_conjuncts: 0:tree 1:found 2:waiting 3:part
theorem sc_bound_conjuncts : FnScope ["tree", "found", "waiting", "part"] ["tree"] (defScope s_bound_conjuncts) := ⟨rfl, rfl, rfl, by decide +kernel, rfl, by decide +kernel, by decide +kernel⟩
-- Bounds.__init__: 0:self 1:equals 2:low 3:high
theorem sc_Bounds___init__ : FnScope ["self", "equals", "low", "high"] ["self", "equals", "low", "high"] (defScope s_Bounds___init__) := ⟨rfl, rfl, rfl, by decide +kernel, rfl, by decide +kernel, by decide +kernel⟩
-- Bounds.is_open: 0:self
theorem sc_Bounds_is_open : FnScope ["self"] ["self"] (defScope s_Bounds_is_open) := ⟨rfl, rfl, rfl, by decide +kernel, rfl, by decide +kernel, by decide +kernel⟩
-- Bounds.shown: 0:self
theorem sc_Bounds_shown : FnScope ["self"] ["self"] (defScope s_Bounds_shown) := ⟨rfl, rfl, rfl, by decide +kernel, rfl, by decide +kernel, by decide +kernel⟩
-- sided: 0:tree 1:_ 2:sign 3:one 4:other
theorem sc_sided : FnScope ["tree", "_", "sign", "one", "other"] ["tree"] (defScope s_sided) := ⟨rfl, rfl, rfl, by decide +kernel, rfl, by decide +kernel, by decide +kernel⟩
-- is_own_field: 0:tree
theorem sc_is_own_field : FnScope ["tree"] ["tree"] (defScope s_is_own_field) := ⟨rfl, rfl, rfl, by decide +kernel, rfl, by decide +kernel, by decide +kernel⟩
-- asked_of: 0:test 1:places 2:sides 3:tree 4:known 5:side 6:equals 7:place 8:here 9:where 10:sign 11:same
theorem sc_asked_of : FnScope ["test", "places", "sides", "tree", "known", "side", "equals", "place", "here", "where", "sign", "same"] ["test", "places"] (defScope s_asked_of) := ⟨rfl, rfl, rfl, by decide +kernel, rfl, by decide +kernel, by decide +kernel⟩
-- first_bound: 0:bounds 1:signs 2:sign 3:tree
theorem sc_first_bound : FnScope ["bounds", "signs", "sign", "tree"] ["bounds", "signs"] (defScope s_first_bound) := ⟨rfl, rfl, rfl, by decide +kernel, rfl, by decide +kernel, by decide +kernel⟩
-- key_range: 0:bounds 1:evaluator 2:here 3:prefix 4:tree 5:value 6:low 7:high 8:sign 9:bound 10:key
theorem sc_key_range : FnScope ["bounds", "evaluator", "here", "prefix", "tree", "value", "low", "high", "sign", "bound", "key"] ["bounds", "evaluator"] (defScope s_key_range) := ⟨rfl, rfl, rfl, by decide +kernel, rfl, by decide +kernel, by decide +kernel⟩
-- selectivity: 0:bounds 1:many 2:_ 3:bound
theorem sc_selectivity : FnScope ["bounds", "many", "_", "bound"] ["bounds", "many"] (defScope s_selectivity) := ⟨rfl, rfl, rfl, by decide +kernel, rfl, by decide +kernel, by decide +kernel⟩
-- part_left: 0:test 1:many
theorem sc_part_left : FnScope ["test", "many"] ["test", "many"] (defScope s_part_left) := ⟨rfl, rfl, rfl, by decide +kernel, rfl, by decide +kernel, by decide +kernel⟩
-- expected_rows: 0:plan 1:counts 2:inner 3:one 4:many 5:test 6:pairs 7:left
theorem sc_expected_rows : FnScope ["plan", "counts", "inner", "one", "many", "test", "pairs", "left"] ["plan", "counts"] (defScope s_expected_rows) := ⟨rfl, rfl, rfl, by decide +kernel, rfl, by decide +kernel, by decide +kernel⟩
-- expected_pairs: 0:test 1:many 2:one
theorem sc_expected_pairs : FnScope ["test", "many", "one"] ["test", "many"] (defScope s_expected_pairs) := ⟨rfl, rfl, rfl, by decide +kernel, rfl, by decide +kernel, by decide +kernel⟩
-- _law_value: 0:dice 1:kind
theorem sc__law_value : FnScope ["dice", "kind"] ["dice", "kind"] (defScope s__law_value) := ⟨rfl, rfl, rfl, by decide +kernel, rfl, by decide +kernel, by decide +kernel⟩
-- _law_literal: 0:value
theorem sc__law_literal : FnScope ["value"] ["value"] (defScope s__law_literal) := ⟨rfl, rfl, rfl, by decide +kernel, rfl, by decide +kernel, by decide +kernel⟩
-- _law_cond: 0:dice 1:kinds 2:place 3:sign 4:one 5:other
theorem sc__law_cond : FnScope ["dice", "kinds", "place", "sign", "one", "other"] ["dice", "kinds"] (defScope s__law_cond) := ⟨rfl, rfl, rfl, by decide +kernel, rfl, by decide +kernel, by decide +kernel⟩
-- law: 0:script 1:dice 2:kinds 3:k 4:test 5:turn 6:places 7:bounds 8:evaluator 9:found 10:row 11:kind 12:meets 13:key 14:place 15:inside 16:equal 17:tree 18:sides 19:side 20:plain 21:known 22:equals 23:many 24:limited_v
theorem sc_law : FnScope ["script", "dice", "kinds", "k", "test", "turn", "places", "bounds", "evaluator", "found", "row", "kind", "meets", "key", "place", "inside", "equal", "tree", "sides", "side", "plain", "known", "equals", "many", "limited_v"] ["script"] (defScope s_law) := ⟨rfl, rfl, rfl, by decide +kernel, rfl, by decide +kernel, by decide +kernel⟩
structure Ad where
  E : Addr
  B : Addr
  V : Addr
  I : Addr
  P : Addr
  Q : Addr
  T : Addr
  lo : Addr
  hi : Addr
  em : Addr
def Ctx (mg : Str → Option Value) (x : Str) (l : List Nat) : Prop := ∃ u, mg x = some u ∧ RelV (.str (S l)) u
def Cr (mg : Str → Option Value) (x : Str) (a : Addr) : Prop := ∃ u, mg x = some u ∧ RelV (.ref a) u
structure Ws (K : PySem.W.Frag) (mg : Str → Option Value) (ad : Ad) : Prop extends Wl K mg where
  n_isinstance : mg "isinstance" = none
  n_tuple : mg "tuple" = none
  n_sorted : mg "sorted" = none
  n_max : mg "max" = none
  n_min : mg "min" = none
  n_zip : mg "zip" = none
  n_enumerate : mg "enumerate" = none
  c_HIGHEST : Cin mg "HIGHEST" 9223372036854775807
  c_NULL_MARK : Cin mg "NULL_MARK" 1
  c_INT_MARK : Cin mg "INT_MARK" 2
  c_TEXT_MARK : Cin mg "TEXT_MARK" 3
  c_TEXT_END : Cin mg "TEXT_END" 1
  c_FIRST_SIGN : Cin mg "FIRST_SIGN" 2
  c_INT_BYTES : Cin mg "INT_BYTES" 8
  c_EQUAL_PART : Cin mg "EQUAL_PART" 10
  c_OTHER_PART : Cin mg "OTHER_PART" 3
  c_ALPHABET : Ctx mg "ALPHABET" alphabet
  c_LOW_SIGNS : Cr mg "LOW_SIGNS" ad.lo
  c_HIGH_SIGNS : Cr mg "HIGH_SIGNS" ad.hi
  c_VALUES : Cr mg "VALUES" ad.V
  c_INPUT_PLACES : Cr mg "INPUT_PLACES" ad.I
  c_PART_PLACES : Cr mg "PART_PLACES" ad.P
  c_QUERY_PLACES : Cr mg "QUERY_PLACES" ad.Q
  c_TURNED : Cr mg "TURNED" ad.T
  lo_t : ∀ H : Hp, SqT K H ad.lo [.str (Str.ofString ">"), .str (Str.ofString ">=")]
  hi_t : ∀ H : Hp, SqT K H ad.hi [.str (Str.ofString "<"), .str (Str.ofString "<=")]
  em_t : ∀ H : Hp, SqT K H ad.em []
  e_cl : Cls K ad.E
  e_origin : NoAttr K ad.E "origin"
  e_rows : NoAttr K ad.E "rows"
  e_kept_rows : NoAttr K ad.E "kept_rows"
  e_g : mg "Evaluator" = some (.ref ad.E)
  e_i : ∃ (f : Addr) (fd : FuncData), FunD K "__init__" "Evaluator.__init__" (defArgs s_Evaluator___init__) (defBody s_Evaluator___init__) (defScope s_Evaluator___init__) [.ref ad.em] [] f fd ∧ Mk K ad.E f
  e_within : FnM K ad.E "within" "Evaluator.within" s_Evaluator_within
  e_value_of : FnM K ad.E "value_of" "Evaluator.value_of" s_Evaluator_value_of
  b_cl : Cls K ad.B
  b_equals : NoAttr K ad.B "equals"
  b_low : NoAttr K ad.B "low"
  b_high : NoAttr K ad.B "high"
  b_g : mg "Bounds" = some (.ref ad.B)
  b_i : ∃ (f : Addr) (fd : FuncData), FunD K "__init__" "Bounds.__init__" (defArgs s_Bounds___init__) (defBody s_Bounds___init__) (defScope s_Bounds___init__) [] [] f fd ∧ Mk K ad.B f
  b_is_open : FnM K ad.B "is_open" "Bounds.is_open" s_Bounds_is_open
  b_shown : FnM K ad.B "shown" "Bounds.shown" s_Bounds_shown
  d_kind_of : FnP K mg "kind_of" s_kind_of
  d_same_kind : FnP K mg "same_kind" s_same_kind
  d_compare : FnP K mg "compare" s_compare
  d_both : FnP K mg "both" s_both
  d_negated : FnP K mg "negated" s_negated
  d_sign_number : FnP K mg "sign_number" s_sign_number
  d_fixed : FnP K mg "fixed" s_fixed
  d_key_of_value : FnP K mg "key_of_value" s_key_of_value
  d_key_of : FnP K mg "key_of" s_key_of
  d_upper_key : FnP K mg "upper_key" s_upper_key
  d_input_place : FnP K mg "input_place" s_input_place
  d_inputs : FnP K mg "inputs" s_inputs
  d_own_plans : FnP K mg "own_plans" s_own_plans
  d_part_places : FnP K mg "part_places" s_part_places
  d_bound_parts : FnP K mg "bound_parts" s_bound_parts
  d_reads : FnP K mg "reads" s_reads
  d_fields_in : ∃ (f : Addr) (fd : FuncData), FunD K "fields_in" "fields_in" (defArgs s_fields_in) (defBody s_fields_in) (defScope s_fields_in) [.int 0] [] f fd ∧ mg "fields_in" = some (.ref f)
  d_null_value : FnP K mg "null_value" s_null_value
  d_known_value : FnP K mg "known_value" s_known_value
  d_field_value : FnP K mg "field_value" s_field_value
  d_comparison_truth : FnP K mg "comparison_truth" s_comparison_truth
  d_and_truth : FnP K mg "and_truth" s_and_truth
  d_asked : FnP K mg "asked" s_asked
  d_isnull_truth : FnP K mg "isnull_truth" s_isnull_truth
  d_bound_conjuncts : FnP K mg "bound_conjuncts" s_bound_conjuncts
  d_sided : FnP K mg "sided" s_sided
  d_is_own_field : FnP K mg "is_own_field" s_is_own_field
  d_asked_of : FnP K mg "asked_of" s_asked_of
  d_first_bound : FnP K mg "first_bound" s_first_bound
  d_key_range : FnP K mg "key_range" s_key_range
  d_selectivity : FnP K mg "selectivity" s_selectivity
  d_part_left : FnP K mg "part_left" s_part_left
  d_expected_rows : FnP K mg "expected_rows" s_expected_rows
  d_expected_pairs : FnP K mg "expected_pairs" s_expected_pairs
  d__law_value : FnP K mg "_law_value" s__law_value
  d__law_literal : FnP K mg "_law_literal" s__law_literal
  d__law_cond : FnP K mg "_law_cond" s__law_cond
/-- the dicts of the top -/
structure Wk (K : PySem.W.Frag) (w : World) (mg : Str → Option Value) (ad : Ad) : Prop where
  V : ∃ es n, KDict K w ad.V es n
  I : ∃ es n, KDict K w ad.I es n
  P : ∃ es n, KDict K w ad.P es n
  Q : ∃ es n, KDict K w ad.Q es n
  T : ∃ es n, KDict K w ad.T es n
  v_null : ∃ f, mg "null_value" = some (.ref f) ∧ PySem.W.nsIn K ad.V (Str.ofString "null") = some (some (.ref f))
  v_int : ∃ f, mg "known_value" = some (.ref f) ∧ PySem.W.nsIn K ad.V (Str.ofString "int") = some (some (.ref f))
  v_text : ∃ f, mg "known_value" = some (.ref f) ∧ PySem.W.nsIn K ad.V (Str.ofString "text") = some (some (.ref f))
  v_field : ∃ f, mg "field_value" = some (.ref f) ∧ PySem.W.nsIn K ad.V (Str.ofString "field") = some (some (.ref f))
  v_cmp : ∃ f, mg "comparison_truth" = some (.ref f) ∧ PySem.W.nsIn K ad.V (Str.ofString "cmp") = some (some (.ref f))
  v_and : ∃ f, mg "and_truth" = some (.ref f) ∧ PySem.W.nsIn K ad.V (Str.ofString "and") = some (some (.ref f))
  v_isnull : ∃ f, mg "isnull_truth" = some (.ref f) ∧ PySem.W.nsIn K ad.V (Str.ofString "isnull") = some (some (.ref f))
  i_filter : ∃ t, PySem.W.nsIn K ad.I (Str.ofString "filter") = some (some (.int 2 t))
  i_limit : ∃ t, PySem.W.nsIn K ad.I (Str.ofString "limit") = some (some (.int 3 t))
  i_join : ∃ t, PySem.W.nsIn K ad.I (Str.ofString "join") = some (some (.int 3 t))
  p_all : ∀ z, z ∈ ["null", "int", "text", "field"] → ∃ t, PySem.W.nsIn K ad.P (Str.ofString z) = some (some (.ref t)) ∧ ∀ H : Hp, SqT K H t [.int 1, .int 1]
  q_all : ∀ z, z ∈ ["null", "int", "text", "field"] → PySem.W.nsIn K ad.Q (Str.ofString z) = some none
  t_sg : ∀ g, g ≠ .ne → ∃ k, PySem.W.nsIn K ad.T (sgS g) = some (some (.str (sgS (turn g)) k))
  t_ne : PySem.W.nsIn K ad.T (sgS .ne) = some none
/-! ### the program's own objects -/
def FE (r kd : V) : List (Str × V) := [("origin", .non), ("rows", r), ("kept_rows", kd)]
def FB (q l h : V) : List (Str × V) := [("equals", q), ("low", l), ("high", h)]
section
variable {v1 v2 v3 y : V} {K K' : PySem.W.Frag} {mg : Str → Option Value} {ad : Ad} {H : Hp} {Q : VK} {x dx : Addr} {σ : L2.St} {i : Nat}
theorem le_1 : (FE v1 v2).lookup ("origin" : Str) = some .non := Dq.look1 (by decide +kernel)
theorem le_2 : (FE v1 v2).lookup ("rows" : Str) = some v1 := (Dq.look0 (by decide +kernel)).trans (Dq.look1 (by decide +kernel))
theorem le_3 : (FE v1 v2).lookup ("kept_rows" : Str) = some v2 := (Dq.look0 (by decide +kernel)).trans ((Dq.look0 (by decide +kernel)).trans (Dq.look1 (by decide +kernel)))
theorem lb_1 : (FB v1 v2 v3).lookup ("equals" : Str) = some v1 := Dq.look1 (by decide +kernel)
theorem lb_2 : (FB v1 v2 v3).lookup ("low" : Str) = some v2 := (Dq.look0 (by decide +kernel)).trans (Dq.look1 (by decide +kernel))
theorem lb_3 : (FB v1 v2 v3).lookup ("high" : Str) = some v3 := (Dq.look0 (by decide +kernel)).trans ((Dq.look0 (by decide +kernel)).trans (Dq.look1 (by decide +kernel)))
theorem g_origin (W : Ws K mg ad) (hK : K' = K) (hs : σ[i]? = some (some (.ref x))) (hx : H x = some (.ins ad.E dx (FE v1 v2))) (q : Q .non H) : tFld K' (tVar i) ("origin" : Str) σ H Q := by
  subst hK
  exact ⟨_, hs, x, ad.E, dx, _, _, rfl, hx, W.e_cl, W.e_origin, le_1, q⟩
theorem g_rows (W : Ws K mg ad) (hK : K' = K) (hs : σ[i]? = some (some (.ref x))) (hx : H x = some (.ins ad.E dx (FE v1 v2))) (q : Q v1 H) : tFld K' (tVar i) ("rows" : Str) σ H Q := by
  subst hK
  exact ⟨_, hs, x, ad.E, dx, _, _, rfl, hx, W.e_cl, W.e_rows, le_2, q⟩
theorem g_kept (W : Ws K mg ad) (hK : K' = K) (hs : σ[i]? = some (some (.ref x))) (hx : H x = some (.ins ad.E dx (FE v1 v2))) (q : Q v2 H) : tFld K' (tVar i) ("kept_rows" : Str) σ H Q := by
  subst hK
  exact ⟨_, hs, x, ad.E, dx, _, _, rfl, hx, W.e_cl, W.e_kept_rows, le_3, q⟩
theorem g_equals (W : Ws K mg ad) (hK : K' = K) (hs : σ[i]? = some (some (.ref x))) (hx : H x = some (.ins ad.B dx (FB v1 v2 v3))) (q : Q v1 H) : tFld K' (tVar i) ("equals" : Str) σ H Q := by
  subst hK
  exact ⟨_, hs, x, ad.B, dx, _, _, rfl, hx, W.b_cl, W.b_equals, lb_1, q⟩
theorem g_low (W : Ws K mg ad) (hK : K' = K) (hs : σ[i]? = some (some (.ref x))) (hx : H x = some (.ins ad.B dx (FB v1 v2 v3))) (q : Q v2 H) : tFld K' (tVar i) ("low" : Str) σ H Q := by
  subst hK
  exact ⟨_, hs, x, ad.B, dx, _, _, rfl, hx, W.b_cl, W.b_low, lb_2, q⟩
theorem g_high (W : Ws K mg ad) (hK : K' = K) (hs : σ[i]? = some (some (.ref x))) (hx : H x = some (.ins ad.B dx (FB v1 v2 v3))) (q : Q v3 H) : tFld K' (tVar i) ("high" : Str) σ H Q := by
  subst hK
  exact ⟨_, hs, x, ad.B, dx, _, _, rfl, hx, W.b_cl, W.b_high, lb_3, q⟩
theorem FE_no {g : Str} (h1 : (g == ("origin" : Str)) = false) (h2 : (g == ("rows" : Str)) = false) (h3 : (g == ("kept_rows" : Str)) = false) : (FE v1 v2).lookup g = none :=
  (Dq.look0 h1).trans ((Dq.look0 h2).trans ((Dq.look0 h3).trans rfl))
theorem FB_no {g : Str} (h1 : (g == ("equals" : Str)) = false) (h2 : (g == ("low" : Str)) = false) (h3 : (g == ("high" : Str)) = false) : (FB v1 v2 v3).lookup g = none :=
  (Dq.look0 h1).trans ((Dq.look0 h2).trans ((Dq.look0 h3).trans rfl))
theorem no_within : ∀ v1 v2 : V, (FE v1 v2).lookup ("within" : Str) = none := fun _ _ => FE_no (by decide +kernel) (by decide +kernel) (by decide +kernel)
theorem no_value : ∀ v1 v2 : V, (FE v1 v2).lookup ("value_of" : Str) = none := fun _ _ => FE_no (by decide +kernel) (by decide +kernel) (by decide +kernel)
theorem no_open : ∀ v1 v2 v3 : V, (FB v1 v2 v3).lookup ("is_open" : Str) = none := fun _ _ _ => FB_no (by decide +kernel) (by decide +kernel) (by decide +kernel)
theorem no_shown : ∀ v1 v2 v3 : V, (FB v1 v2 v3).lookup ("shown" : Str) = none := fun _ _ _ => FB_no (by decide +kernel) (by decide +kernel) (by decide +kernel)
theorem pe1 : putF ("origin" : Str) .non [] = [(("origin" : Str), V.non)] := rfl
theorem pe2 : putF ("rows" : Str) v1 [(("origin" : Str), V.non)] = [(("origin" : Str), V.non), (("rows" : Str), v1)] := by rw [Dq.putF_ne (by decide +kernel)]; rfl
theorem pe3 : putF ("kept_rows" : Str) v2 [(("origin" : Str), V.non), (("rows" : Str), v1)] = FE v1 v2 := by rw [Dq.putF_ne (by decide +kernel), Dq.putF_ne (by decide +kernel)]; rfl
theorem pe4 : putF ("kept_rows" : Str) v3 (FE v1 v2) = FE v1 v3 := by
  show putF ("kept_rows" : Str) v3 [(("origin" : Str), V.non), (("rows" : Str), v1), (("kept_rows" : Str), v2)] = _
  rw [Dq.putF_ne (by decide +kernel), Dq.putF_ne (by decide +kernel), Dq.putF_eq]; rfl
theorem pb1 : putF ("equals" : Str) v1 [] = [(("equals" : Str), v1)] := rfl
theorem pb2 : putF ("low" : Str) v2 [(("equals" : Str), v1)] = [(("equals" : Str), v1), (("low" : Str), v2)] := by rw [Dq.putF_ne (by decide +kernel)]; rfl
theorem pb3 : putF ("high" : Str) v3 [(("equals" : Str), v1), (("low" : Str), v2)] = FB v1 v2 v3 := by rw [Dq.putF_ne (by decide +kernel), Dq.putF_ne (by decide +kernel)]; rfl
end
/-! ### values and trees -/
def vV : RV → V
  | .non => .non
  | .txt l => .str (S l)
  | .num n => .int n
def oV : Option Bool → V
  | none => .non
  | some b => .bl b
def litX : RV → List V
  | .non => [.str (Str.ofString "null")]
  | .txt l => [.str (Str.ofString "text"), .str (S l)]
  | .num n => [.str (Str.ofString "int"), .int n]
def fldX (p : Nat) : List V := [.str (Str.ofString "field"), .int 0, .int (p : Int)]
def lfX : Lf → List V
  | .lit v => litX v
  | .fld p => fldX p
def LfO (H : Hp) (a : Addr) (l : Lf) : Prop := H a = some (.tup (lfX l))
def CdO (H : Hp) (a : Addr) : Cd → Prop
  | .isn p => ∃ x, LfO H x (.fld p) ∧ H a = some (.tup [.str (Str.ofString "isnull"), .ref x, .bl true])
  | .cmp g l r => ∃ x y, LfO H x l ∧ LfO H y r ∧ H a = some (.tup [.str (Str.ofString "cmp"), .str (sgS g), .ref x, .ref y])
def TmO (H : Hp) : Addr → M24.Tm → Prop
  | a, .cd c => CdO H a c
  | a, .and T c => ∃ x y, TmO H x T ∧ CdO H y c ∧ H a = some (.tup [.str (Str.ofString "and"), .ref x, .ref y])
theorem LfO.tk {H H' : Hp} {a : Addr} {l : Lf} (h : LfO H a l) (t : Tk H H') : LfO H' a l := tup_tk h t
theorem CdO.tk {H H' : Hp} {a : Addr} {c : Cd} (h : CdO H a c) (t : Tk H H') : CdO H' a c := by
  cases c with
  | isn p => obtain ⟨x, h1, h2⟩ := h; exact ⟨x, h1.tk t, tup_tk h2 t⟩
  | cmp g l r => obtain ⟨x, y, h1, h2, h3⟩ := h; exact ⟨x, y, h1.tk t, h2.tk t, tup_tk h3 t⟩
theorem TmO.tk {H H' : Hp} (t : Tk H H') : ∀ {a : Addr} {T : M24.Tm}, TmO H a T → TmO H' a T
  | _, .cd c, h => CdO.tk h t
  | _, .and T c, h => by
    obtain ⟨x, y, h1, h2, h3⟩ := h
    exact ⟨x, y, TmO.tk t h1, h2.tk t, tup_tk h3 t⟩
theorem ins_tk {H H' : Hp} {a C dx : Addr} {fs : List (Str × V)} (h : H a = some (.ins C dx fs)) (t : Tk H H') : H' a = some (.ins C dx fs) := t _ _ h fun zs z => by cases z
/-- an evaluator, its rows in so many tuples -/
def EvA (K : PySem.W.Frag) (ad : Ad) (H : Hp) (e : Addr) (m : Nat) : Prop := ∃ dx r kd xs, H e = some (.ins ad.E dx (FE (.ref r) kd)) ∧ SqT K H r xs ∧ xs.length ≤ m
/-- an evaluator, its first row -/
def EvO (ad : Ad) (H : Hp) (e : Addr) (m : Nat) (row : List RV) : Prop := ∃ dx r kd a rest, H e = some (.ins ad.E dx (FE (.ref r) kd)) ∧ H r = some (.tup (.ref a :: rest)) ∧ rest.length ≤ m ∧ H a = some (.tup (row.map vV))
theorem EvO.tk {ad : Ad} {H H' : Hp} {e : Addr} {m : Nat} {row : List RV} (h : EvO ad H e m row) (t : Tk H H') : EvO ad H' e m row := by
  obtain ⟨dx, r, kd, a, rest, h1, h2, h3, h4⟩ := h
  exact ⟨dx, r, kd, a, rest, ins_tk h1 t, tup_tk h2 t, h3, tup_tk h4 t⟩
theorem EvO.ev {K : PySem.W.Frag} {ad : Ad} {H : Hp} {e : Addr} {m : Nat} {row : List RV} (h : EvO ad H e m row) : EvA K ad H e (m + 1) := by
  obtain ⟨dx, r, kd, a, rest, h1, h2, h3, h4⟩ := h
  exact ⟨dx, r, kd, _, h1, SqT.of h2, Nat.succ_le_succ h3⟩
theorem ev_at {K : PySem.W.Frag} {ad : Ad} {H : Hp} {e : Addr} {m : Nat} (h : EvA K ad H e m) {g : Str} (hg : ∀ v1 v2 : V, (FE v1 v2).lookup g = none) {R : Prop} (q : R) : ∃ a dx fs, V.ref e = .ref a ∧ H a = some (.ins ad.E dx fs) ∧ fs.lookup g = none ∧ R := by
  obtain ⟨dx, r, kd, xs, h1, _⟩ := h
  exact ⟨e, dx, _, rfl, h1, hg _ _, q⟩
/-- values that fit to one another -/
def Fit (u v : RV) : Prop := u = .non ∨ v = .non ∨ isT u = isT v
/-- what a tree is worth over a row; so deep at most -/
inductive TV (row : List RV) (H : Hp) : Nat → Addr → V → Prop
  | lit {n a v} : H a = some (.tup (litX v)) → TV row H n a (vV v)
  | fld {n a p v} : H a = some (.tup (fldX p)) → row[p]? = some v → TV row H n a (vV v)
  | isn {n a x u} : H a = some (.tup [.str (Str.ofString "isnull"), .ref x, .bl true]) → TV row H n x (vV u) → TV row H (n + 1) a (.bl (!decide (u = .non)))
  | cmp {n a g x y u v} : H a = some (.tup [.str (Str.ofString "cmp"), .str (sgS g), .ref x, .ref y]) → TV row H n x (vV u) → TV row H n y (vV v) → Fit u v → TV row H (n + 1) a (oV (cmpV g u v))
  | and {n a x y p q} : H a = some (.tup [.str (Str.ofString "and"), .ref x, .ref y]) → TV row H n x (oV p) → TV row H n y (oV q) → TV row H (n + 1) a (oV (and3 p q))
theorem TV.up {row : List RV} {H : Hp} {n : Nat} {a : Addr} {v : V} (h : TV row H n a v) : TV row H (n + 1) a v := by
  induction h with
  | lit h => exact .lit h
  | fld h e => exact .fld h e
  | isn h _ i => exact .isn h i
  | cmp h _ _ f i j => exact .cmp h i j f
  | and h _ _ i j => exact .and h i j
theorem TV.le {row : List RV} {H : Hp} {n m : Nat} {a : Addr} {v : V} (h : TV row H n a v) (hm : n ≤ m) : TV row H m a v := by
  induction hm with
  | refl => exact h
  | step _ ih => exact ih.up
section
variable {K : PySem.W.Frag} {w : World} {H : Hp} {Q : VK}
theorem w_ixA {a : Addr} {xs : List V} {i : Int} {v : V} (h : H a = some (.tup xs)) (e : atI xs i = some v) (q : Q v H) : rIxT K (.ref a) (.int i) H Q := ⟨a, xs, i, v, rfl, rfl, SqT.of h, e, q⟩
theorem w_eqLF {a b : String} (h : Str.ofString a ≠ Str.ofString b) (q : Q (.bl false) H) : rEq (.str (Str.ofString a)) (.str (Str.ofString b)) H Q := ⟨rfl, by
  rw [decide_eq_false (fun z => h (V.str.inj z))]; exact q⟩
theorem w_eqLT {a b : String} (h : a = b) (q : Q (.bl true) H) : rEq (.str (Str.ofString a)) (.str (Str.ofString b)) H Q := ⟨rfl, by
  rw [decide_eq_true (by rw [h])]; exact q⟩
theorem w_neLF {a b : String} (h : Str.ofString a ≠ Str.ofString b) (q : Q (.bl true) H) : rNe (.str (Str.ofString a)) (.str (Str.ofString b)) H Q := ⟨rfl, by
  rw [decide_eq_false (fun z => h (V.str.inj z))]; exact q⟩
theorem w_neLT {a b : String} (h : a = b) (q : Q (.bl false) H) : rNe (.str (Str.ofString a)) (.str (Str.ofString b)) H Q := ⟨rfl, by
  rw [decide_eq_true (by rw [h])]; exact q⟩
theorem w_neSelf {a : Str} (q : Q (.bl false) H) : rNe (.str a) (.str a) H Q := ⟨rfl, by rw [decide_eq_true rfl]; exact q⟩
theorem w_kdNot {d : Addr} {z : Str} {u : Value} (e : PySem.W.nsIn K d z = some (some u)) (q : Q (.bl false) H) : ∃ (z' : Str) (r : Option Value), V.str z = .str z' ∧ V.ref d = .ref d ∧ PySem.W.nsIn K d z' = some r ∧ Q (.bl (!r.isSome)) H := ⟨z, _, rfl, rfl, e, q⟩
theorem w_kdNotN {d : Addr} {z : Str} (e : PySem.W.nsIn K d z = some none) (q : Q (.bl true) H) : ∃ (z' : Str) (r : Option Value), V.str z = .str z' ∧ V.ref d = .ref d ∧ PySem.W.nsIn K d z' = some r ∧ Q (.bl (!r.isSome)) H := ⟨z, _, rfl, rfl, e, q⟩
theorem w_kdInN {d : Addr} {z : Str} (e : PySem.W.nsIn K d z = some none) (q : Q (.bl false) H) : ∃ (z' : Str) (r : Option Value), V.str z = .str z' ∧ V.ref d = .ref d ∧ PySem.W.nsIn K d z' = some r ∧ Q (.bl r.isSome) H := ⟨z, _, rfl, rfl, e, q⟩
theorem w_kdIx {d : Addr} {es : Array DictEntry} {n : Nat} {z : Str} {u : Value} {v : V} (D : KDict K w d es n) (e : PySem.W.nsIn K d z = some (some u)) (r : RelV v u) (q : Q v H) : rIxD K w (.ref d) (.str z) H Q := ⟨d, z, v, rfl, rfl, ⟨es, n, u, D.at_, D.lit, e, r⟩, q⟩
theorem w_isNV {v : RV} (q : Q (.bl (decide (v = .non))) H) : rIsN (vV v) V.non H Q := Dq.w_isNb (by cases v <;> simp [vV]) q
theorem w_notNV {v : RV} (q : Q (.bl (!decide (v = .non))) H) : rNotN (vV v) V.non H Q := Dq.w_notNb (by cases v <;> simp [vV]) q
theorem vV_inj {u v : RV} : (vV u = vV v) ↔ u = v := by
  constructor
  · intro h
    cases u <;> cases v <;> simp [vV] at h ⊢
    · exact h
    · exact h
  · rintro rfl; rfl
theorem w_eqVV {u v : RV} (q : Q (.bl (decide (u = v))) H) : rEq (vV u) (vV v) H Q := ⟨by cases u <;> cases v <;> rfl, by
  rw [show decide (vV u = vV v) = decide (u = v) from decide_eq_decide.mpr vV_inj]; exact q⟩
theorem w_neVV {u v : RV} (q : Q (.bl (!decide (u = v))) H) : rNe (vV u) (vV v) H Q := ⟨by cases u <;> cases v <;> rfl, by
  rw [show decide (vV u = vV v) = decide (u = v) from decide_eq_decide.mpr vV_inj]; exact q⟩
theorem or_lt {u v : RV} (hu : u ≠ .non) (hv : v ≠ .non) (hf : isT u = isT v) (q : Q (.bl (vlt u v)) H) : rI0 (fun i j => V.bl (decide (i < j))) (vV u) (vV v) H Q ∨ ∃ i j, vV u = .str i ∧ vV v = .str j ∧ Q (.bl (decide (i.cps.toList < j.cps.toList))) H := by
  cases u <;> cases v <;> first
    | exact absurd rfl hu
    | exact absurd rfl hv
    | (cases hf; done)
    | exact .inl ⟨_, _, rfl, rfl, q⟩
    | exact .inr ⟨_, _, rfl, rfl, q⟩
theorem or_gt {u v : RV} (hu : u ≠ .non) (hv : v ≠ .non) (hf : isT u = isT v) (q : Q (.bl (vlt v u)) H) : rI0 (fun i j => V.bl (decide (j < i))) (vV u) (vV v) H Q ∨ ∃ i j, vV u = .str i ∧ vV v = .str j ∧ Q (.bl (decide (j.cps.toList < i.cps.toList))) H := by
  cases u <;> cases v <;> first
    | exact absurd rfl hu
    | exact absurd rfl hv
    | (cases hf; done)
    | exact .inl ⟨_, _, rfl, rfl, q⟩
    | exact .inr ⟨_, _, rfl, rfl, q⟩
theorem not_lt_dec (n m : Int) : (!decide (m < n)) = decide (n ≤ m) := by
  by_cases c : m < n
  · rw [decide_eq_true c, decide_eq_false (by omega)]; rfl
  · rw [decide_eq_false c, decide_eq_true (by omega)]; rfl
theorem or_le {u v : RV} (hu : u ≠ .non) (hv : v ≠ .non) (hf : isT u = isT v) (q : Q (.bl (!vlt v u)) H) : rI0 (fun i j => V.bl (decide (i ≤ j))) (vV u) (vV v) H Q ∨ ∃ i j, vV u = .str i ∧ vV v = .str j ∧ Q (.bl (!decide (j.cps.toList < i.cps.toList))) H := by
  cases u <;> cases v <;> first
    | exact absurd rfl hu
    | exact absurd rfl hv
    | (cases hf; done)
    | exact .inl ⟨_, _, rfl, rfl, by show Q (.bl (decide (_ ≤ _))) H; rw [← not_lt_dec]; exact q⟩
    | exact .inr ⟨_, _, rfl, rfl, q⟩
theorem or_ge {u v : RV} (hu : u ≠ .non) (hv : v ≠ .non) (hf : isT u = isT v) (q : Q (.bl (!vlt u v)) H) : rI0 (fun i j => V.bl (decide (j ≤ i))) (vV u) (vV v) H Q ∨ ∃ i j, vV u = .str i ∧ vV v = .str j ∧ Q (.bl (!decide (i.cps.toList < j.cps.toList))) H := by
  cases u <;> cases v <;> first
    | exact absurd rfl hu
    | exact absurd rfl hv
    | (cases hf; done)
    | exact .inl ⟨_, _, rfl, rfl, by show Q (.bl (decide (_ ≤ _))) H; rw [← not_lt_dec]; exact q⟩
    | exact .inr ⟨_, _, rfl, rfl, q⟩
end
end K24
end

section
-- part K24B
set_option Elab.async false
set_option linter.all false
set_option maxRecDepth 100000
set_option maxHeartbeats 800000
open PySem PySem.Spec PyProof.Rows L2 Fw
local macro_rules | `(tactic| walk_at "e1") => `(tactic| first
  | ((with_reducible refine' w_var ?hv ?_); (case hv => rfl))
  | ((with_reducible refine' K24.w_ixA ?hh ?ha ?_); (case hh => first | assumption | exact upd_same); (case ha => rfl))
  | ((with_reducible refine' K24.w_eqLF ?hl ?_); (case hl => decide +kernel))
  | ((with_reducible refine' K24.w_eqLT ?hl ?_); (case hl => rfl))
  | ((with_reducible refine' K24.w_neLF ?hl ?_); (case hl => decide +kernel))
  | ((with_reducible refine' K24.w_neLT ?hl ?_); (case hl => rfl))
  | with_reducible refine Fw.w_notV ?_
  | with_reducible refine F24.w_iZipM ?_
  | with_reducible refine F24.w_iZipA ?_
  | with_reducible refine Fge.w_cld ?_
  | with_reducible refine w_c ?_
  | with_reducible refine w_op ?_
  | with_reducible refine w_un ?_
  | with_reducible refine w_cons ?_
  | with_reducible refine w_nil ?_
  | with_reducible refine w_cl ?_
  | with_reducible refine w_cb ?_
  | with_reducible refine w_gname ?_
  | with_reducible refine w_gsub ?_
  | with_reducible refine w_test ?_
  | with_reducible refine w_B ?_
  | with_reducible refine w_bl ?_
  | with_reducible refine w_and ?_
  | with_reducible refine w_or ?_
  | with_reducible refine w_not ?_
  | with_reducible refine w_if ?_
  | with_reducible refine w_I0 ?_
  | with_reducible refine Gk.w_rU ?_
  | with_reducible refine Dq.w_orV ?_
  | with_reducible refine Dq.w_js ?_
  | with_reducible refine Dq.w_js0 ?_
  | with_reducible refine Dq.w_fm ?_
  | with_reducible refine Dq.w_andV ?_
  | with_reducible refine Gk.w_iEnum ?_
  | with_reducible refine Dq.w_dget ?_
  | with_reducible refine Dq.w_dpop1 ?_
  | with_reducible refine Dq.w_ddel ?_
  | with_reducible refine Dq.w_din ?_
  | with_reducible refine Dq.w_dnotin ?_
  | with_reducible refine Dq.w_dget2 ?_
  | with_reducible refine Dq.w_dnew ?_
  | with_reducible refine Dq.w_fldaug ?_
  | with_reducible refine Dq.w_aSub ?_
  | with_reducible refine Dq.w_aAdd ?_
  | with_reducible refine Dq.w_mkd ?_
  | with_reducible refine Dq.w_notN0 ?_
  | with_reducible refine Dq.w_isN0 ?_
  | with_reducible refine Ftw.w_isTI ?_
  | with_reducible refine Ftw.w_isTS ?_
  | with_reducible refine Ftw.w_isTR ?_
  | with_reducible refine Ftw.w_isTN ?_
  | with_reducible refine Ftw.w_isTtt ?_
  | with_reducible refine Ftw.w_isTft ?_
  | with_reducible refine Ftw.w_isTtf ?_
  | with_reducible refine Ftw.w_isNS ?_
  | with_reducible refine Ftw.w_isNB ?_
  | ((with_reducible refine' Ftw.w_isiRS ?hq ?_); (case hq => assumption))
  | ((with_reducible refine' Ftw.w_isiRT ?hq ?_); (case hq => assumption))
  | ((with_reducible refine' Ftw.w_isiRI ?hq ?_); (case hq => assumption))
  | with_reducible refine Ftw.w_isiIT ?_
  | with_reducible refine Ftw.w_isiII ?_
  | with_reducible refine Dq.w_notNR ?_
  | with_reducible refine Dq.w_isNR ?_
  | with_reducible refine Dq.w_notNI ?_
  | with_reducible refine Dq.w_isNI ?_
  | with_reducible refine L2.w_neOs ?_
  | with_reducible refine w_ipI ?_
  | with_reducible refine w_eqS ?_
  | with_reducible refine w_neS ?_
  | with_reducible refine w_eqI ?_
  | with_reducible refine w_neI ?_
  | with_reducible refine w_eqB ?_
  | with_reducible refine w_neB ?_
  | ((with_reducible refine w_eq ?hs ?_); (case hs => rfl))
  | ((with_reducible refine w_ne ?hs ?_); (case hs => rfl))
  | with_reducible refine w_fld ?_
  | with_reducible refine w_bm ?_
  | with_reducible refine w_bm0 ?_
  | with_reducible refine w_sl ?_
  | with_reducible refine w_part ?_
  | with_reducible refine w_partI ?_
  | with_reducible refine w_nopart ?_
  | ((with_reducible refine' w_ixL ?hh ?ha ?_); (case hh => first | assumption | exact upd_same); (case ha => rfl))
  | ((with_reducible refine' w_setLu ?ha ?_); (case ha => rfl))
  | ((with_reducible refine' w_setL ?hh ?ha ?_); (case hh => first | assumption | exact upd_same); (case ha => rfl))
  | with_reducible refine w_iteT ?_
  | with_reducible refine w_iteF ?_
  | with_reducible refine w_lst ?_
  | with_reducible refine w_tup ?_
  | ((with_reducible refine w_new ?hz ?_); (case hz => rfl))
  | with_reducible refine w_lc ?_
  | with_reducible refine w_iL ?_
  | with_reducible refine w_iT ?_
  | with_reducible refine w_iR1 ?_
  | with_reducible refine w_iR2 ?_
  | with_reducible refine w_yes ?_
  | with_reducible refine w_iStr ?_
  | with_reducible exact tyS
  | with_reducible refine And.intro tyS ?_
  | ((with_reducible refine w_find3 ?_); (first | rw [find3_one] | rw [starts3] | skip))
  | ((with_reducible refine w_2s ?_); (try rw [find_one]))
  | ((with_reducible refine w_inS ?_); rw [S_list])
  | ((with_reducible refine w_lenS ?hz ?_); (case hz => first | assumption | omega | decide); rw [SX.S_len])
  | ((with_reducible refine w_addS ?hz ?_); (case hz => first | assumption | omega | decide); rw [vS_cat])
  | with_reducible refine w_mk ?_
  | with_reducible refine w_me ?_
  | with_reducible refine w_sfld ?_
  | ((with_reducible refine' w_gtup ?hh ?hn ?_); (case hh => first | assumption | exact upd_same); (case hn => rfl))
  | with_reducible refine w_gcons ?_
  | with_reducible refine w_gnil ?_
  | with_reducible refine w_repl ?_
  | with_reducible refine w_star ?_
  | with_reducible refine w_revL ?_
  | with_reducible refine w_isiS ?_
  | with_reducible refine w_isiI ?_
  | with_reducible refine w_isiN ?_
  | with_reducible refine w_chain ?_
  | with_reducible refine w_iEnumT ?_
  | with_reducible refine w_iZip3 ?_
  | with_reducible refine w_iZip ?_
  | with_reducible refine w_lenR3 ?_
  | with_reducible refine w_x1i ?_
  | with_reducible refine w_x1b ?_
  | with_reducible refine w_x1s ?_
  | with_reducible refine w_int1i ?_
  | with_reducible refine w_int1b ?_
  | ((with_reducible refine w_mod ?hc ?_); (case hc => omega))
  | ((with_reducible refine w_fdivW ?hc ?hd ?_); (case hc => omega); (case hd => omega))
  | ((with_reducible refine w_mul ?hc ?_); (case hc => first | exact Or.inr ⟨by decide, by decide⟩ | exact Or.inl ⟨by decide, by decide⟩))
  | ((with_reducible refine w_pow ?hc ?_); (case hc => exact ⟨by decide, by decide, by decide⟩)))
local macro_rules | `(tactic| walk_at "f1") => `(tactic| first
  | ((with_reducible refine' K24.g_rows ?hW ?hK ?hs ?hx ?_); (case hW => assumption); (case hK => rfl); (case hs => rfl); (case hx => first | assumption | exact upd_same))
  | ((with_reducible refine' K24.g_kept ?hW ?hK ?hs ?hx ?_); (case hW => assumption); (case hK => rfl); (case hs => rfl); (case hx => first | assumption | exact upd_same))
  | ((with_reducible refine' K24.g_origin ?hW ?hK ?hs ?hx ?_); (case hW => assumption); (case hK => rfl); (case hs => rfl); (case hx => first | assumption | exact upd_same))
  | ((with_reducible refine' K24.g_equals ?hW ?hK ?hs ?hx ?_); (case hW => assumption); (case hK => rfl); (case hs => rfl); (case hx => first | assumption | exact upd_same))
  | ((with_reducible refine' K24.g_low ?hW ?hK ?hs ?hx ?_); (case hW => assumption); (case hK => rfl); (case hs => rfl); (case hx => first | assumption | exact upd_same))
  | ((with_reducible refine' K24.g_high ?hW ?hK ?hs ?hx ?_); (case hW => assumption); (case hK => rfl); (case hs => rfl); (case hx => first | assumption | exact upd_same))
  | walk_at "e1")
local macro_rules | `(tactic| walk_at "s1") => `(tactic| first
  | with_reducible refine w_seq ?_
  | with_reducible refine w_asg ?_
  | with_reducible refine w_ret ?_
  | with_reducible refine w_par ?_
  | with_reducible refine w_drop ?_
  | with_reducible refine w_next ?_
  | with_reducible refine w_ifs ?_
  | ((with_reducible refine' w_aug ?hv ?_); (case hv => rfl))
  | with_reducible refine w_for ?_
  | walk_at "f1")
local macro_rules | `(tactic| walk_at "e") => `(tactic| repeat walk_at "e1")
local macro_rules | `(tactic| walk_at "g") => `(tactic| repeat walk_at "s1")
local macro_rules | `(tactic| walk_at "n1") => `(tactic| ((fail_if_success (with_reducible refine w_if ?_)); walk_at "s1"))
local macro_rules | `(tactic| walk_at "n") => `(tactic| repeat walk_at "n1")
local macro_rules | `(tactic| walk_at "p1") => `(tactic| ((fail_if_success (with_reducible refine w_ifs ?_)); walk_at "s1"))
local macro_rules | `(tactic| walk_at "p") => `(tactic| repeat walk_at "p1")
local macro_rules | `(tactic| walk_at "q1") => `(tactic| ((fail_if_success (with_reducible refine w_seq ?_)); walk_at "s1"))
local macro_rules | `(tactic| walk_at "q") => `(tactic| repeat walk_at "q1")

namespace K24
open Dc Gk M24 M5
def kindS : RV → Str
  | .non => Str.ofString "null"
  | .txt _ => Str.ofString "text"
  | .num _ => Str.ofString "int"
theorem kind_eq {u v : RV} (hu : u ≠ .non) (hv : v ≠ .non) (h : isT u = isT v) : kindS u = kindS v := by
  cases u <;> cases v <;> first
    | exact absurd rfl hu
    | exact absurd rfl hv
    | (cases h; done)
    | rfl
def spKind : Sp := fun vs H Q _ => ∃ v : RV, vs = [vV v] ∧ Q (.str (kindS v)) H
def spSame : Sp := fun vs H Q _ => ∃ u v : RV, vs = [vV u, vV v] ∧ Fit u v ∧ Q .non H
def spComp : Sp := fun vs H Q _ => ∃ (g : Sg) (u v : RV), vs = [.str (sgS g), vV u, vV v] ∧ Fit u v ∧ Q (oV (cmpV g u v)) H
def spBoth : Sp := fun vs H Q _ => ∃ x y : Option Bool, vs = [oV x, oV y] ∧ Q (oV (and3 x y)) H
def spNeg : Sp := fun vs H Q _ => ∃ b : Bool, vs = [.bl b] ∧ Q (.bl (!b)) H
def spAskd : Sp := fun vs H Q _ => ∃ b : Bool, vs = [.bl b, .bl true] ∧ Q (.bl (!b)) H
section
variable {P : Program} {w : World} {K : PySem.W.Frag} {mg : Str → Option Value} {base : Heap} {ad : Ad}
theorem ok_kind_of (W : Ws K mg ad) : Cl P w K mg base 1 "kind_of" spKind := by
  refine cl_mk W.d_kind_of sc_kind_of (fun _ _ _ _ _ _ us hl => match us, hl with | [_], _ => rfl) (fun vs H Q E h => ?_) (fun f cdv A outer s H vs Q E hr h => ?_)
  · obtain ⟨v, rfl, _⟩ := h; rfl
  obtain ⟨v, rfl, q⟩ := h
  refine ⟨_, (pss_cons (ps_if (pt_cmpR op_isN1 (pv 0) pe_non (nomark _))
    (pss_one (ps_ret pe_str))
    pss_nil)
    (pss_cons (ps_if (pt_val (pe_callB L2.call_isi rfl W.n_isinstance PyProof.Rows.boot_isinstance (pa_cons (pv 0) (pa_cons (pe_bltn (v := .ty "str") rfl W.n_str (by decide +kernel) rfl) pa_nil))))
    (pss_one (ps_ret pe_str))
    pss_nil)
    (pss_one (ps_ret pe_str)))), ?_⟩
  cases v with
  | non =>
    rw [show vV .non = V.non from rfl]
    walk_at "g"
    exact q
  | txt l =>
    rw [show vV (.txt l) = V.str (S l) from rfl]
    walk_at "g"
    exact q
  | num n =>
    rw [show vV (.num n) = V.int n from rfl]
    walk_at "g"
    exact q
theorem ok_same_kind (W : Ws K mg ad) (c_kind_of : Cl P w K mg base 1 "kind_of" spKind) : Cl P w K mg base 2 "same_kind" spSame := by
  refine cl_mk W.d_same_kind sc_same_kind (fun _ _ _ _ _ _ us hl => match us, hl with | [_, _], _ => rfl) (fun vs H Q E h => ?_) (fun f cdv A outer s H vs Q E hr h => ?_)
  · obtain ⟨u, v, rfl, _⟩ := h; rfl
  obtain ⟨u, v, rfl, hf, q⟩ := h
  refine ⟨_, (pss_one (ps_if (PW.pt (pw_and (pt_cmpR op_notN1 (pv 0) pe_non (nomark _)) (pw_and (pt_cmpR op_notN1 (pv 1) pe_non (nomark _)) (pw_and1 (pt_cmpR op_ne (pe_cl c_kind_of hr (by first | decide | omega) rfl passL (pa_cons (pv 0) pa_nil)) (pe_cl c_kind_of hr (by first | decide | omega) rfl passL (pa_cons (pv 1) pa_nil)) (nomark _))))))
    (pss_one ps_never)
    pss_nil)), ?_⟩
  walk_at "g"
  refine w_notNV ?_
  walk_at "g"
  refine w_iteN (fun c1 => ?_) (fun c1 => ?_)
  · walk_at "g"
    refine w_notNV ?_
    walk_at "g"
    refine w_iteN (fun c2 => ?_) (fun c2 => ?_)
    · walk_at "g"
      refine ⟨u, rfl, ?_⟩
      walk_at "g"
      refine ⟨v, rfl, ?_⟩
      rw [kind_eq c1 c2 (hf.elim (absurd · c1) fun h => h.elim (absurd · c2) id)]
      refine w_neSelf ?_
      walk_at "g"
      exact q
    · walk_at "g"
      exact q
  · walk_at "g"
    exact q
theorem ok_compare (W : Ws K mg ad) (c_same_kind : Cl P w K mg base 2 "same_kind" spSame) : Cl P w K mg base 3 "compare" spComp := by
  refine cl_mk W.d_compare sc_compare (fun _ _ _ _ _ _ us hl => match us, hl with | [_, _, _], _ => rfl) (fun vs H Q E h => ?_) (fun f cdv A outer s H vs Q E hr h => ?_)
  · obtain ⟨g, u, v, rfl, _⟩ := h; rfl
  obtain ⟨g, u, v, rfl, hf, q⟩ := h
  refine ⟨_, (pss_cons (ps_expr (pe_cl c_same_kind hr (by first | decide | omega) rfl passL (pa_cons (pv 1) (pa_cons (pv 2) pa_nil))))
    (pss_cons (ps_if (PW.pt (pw_or (pt_cmpR op_isN1 (pv 1) pe_non (nomark _)) (pw_or1 (pt_cmpR op_isN1 (pv 2) pe_non (nomark _)))))
    (pss_one (ps_ret pe_non))
    pss_nil)
    (pss_cons (ps_if (pt_cmpR op_eq (pv 0) pe_str (nomark _))
    (pss_one (ps_ret (pe_cmpR op_eq (pv 1) (pv 2) (nomark _))))
    pss_nil)
    (pss_cons (ps_if (pt_cmpR op_eq (pv 0) pe_str (nomark _))
    (pss_one (ps_ret (pe_cmpR op_ne (pv 1) (pv 2) (nomark _))))
    pss_nil)
    (pss_cons (ps_if (pt_cmpR op_eq (pv 0) pe_str (nomark _))
    (pss_one (ps_ret (pe_cmpR (Fge.or_op op_lt op_lt_str) (pv 1) (pv 2) (nomark _))))
    pss_nil)
    (pss_cons (ps_if (pt_cmpR op_eq (pv 0) pe_str (nomark _))
    (pss_one (ps_ret (pe_cmpR (Fge.or_op op_le op_le_str) (pv 1) (pv 2) (nomark _))))
    pss_nil)
    (pss_cons (ps_if (pt_cmpR op_eq (pv 0) pe_str (nomark _))
    (pss_one (ps_ret (pe_cmpR (Fge.or_op op_gt op_gt_str) (pv 1) (pv 2) (nomark _))))
    pss_nil)
    (pss_one (ps_ret (pe_cmpR (Fge.or_op op_ge op_ge_str) (pv 1) (pv 2) (nomark _))))))))))), ?_⟩
  walk_at "g"
  refine ⟨u, v, rfl, hf, ?_⟩
  walk_at "g"
  refine w_isNV ?_
  walk_at "g"
  unfold cmpV at q
  refine w_iteD (fun c1 => ?_) (fun c1 => ?_)
  · rw [if_pos (.inl c1)] at q
    walk_at "g"
    exact q
  walk_at "g"
  refine w_isNV ?_
  walk_at "g"
  refine w_iteD (fun c2 => ?_) (fun c2 => ?_)
  · rw [if_pos (.inr c2)] at q
    walk_at "g"
    exact q
  rw [if_neg (fun h => h.elim c1 c2)] at q
  have ft : isT u = isT v := hf.elim (absurd · c1) fun h => h.elim (absurd · c2) id
  cases g with
  | eq =>
    rw [show sgS .eq = Str.ofString "=" from rfl]
    walk_at "g"
    refine w_eqVV ?_
    exact q
  | ne =>
    rw [show sgS .ne = Str.ofString "<>" from rfl]
    walk_at "g"
    refine w_neVV ?_
    exact q
  | lt =>
    rw [show sgS .lt = Str.ofString "<" from rfl]
    walk_at "g"
    refine or_lt c1 c2 ft ?_
    exact q
  | le =>
    rw [show sgS .le = Str.ofString "<=" from rfl]
    walk_at "g"
    refine or_le c1 c2 ft ?_
    exact q
  | gt =>
    rw [show sgS .gt = Str.ofString ">" from rfl]
    walk_at "g"
    refine or_gt c1 c2 ft ?_
    exact q
  | ge =>
    rw [show sgS .ge = Str.ofString ">=" from rfl]
    walk_at "g"
    refine or_ge c1 c2 ft ?_
    exact q
theorem ok_both (W : Ws K mg ad) : Cl P w K mg base 1 "both" spBoth := by
  refine cl_mk W.d_both sc_both (fun _ _ _ _ _ _ us hl => match us, hl with | [_, _], _ => rfl) (fun vs H Q E h => ?_) (fun f cdv A outer s H vs Q E hr h => ?_)
  · obtain ⟨x, y, rfl, _⟩ := h; rfl
  obtain ⟨x, y, rfl, q⟩ := h
  refine ⟨_, (pss_cons (ps_if (PW.pt (pw_or (pt_cmpR Ftx.op_isT (pv 0) pe_bl (nomark _)) (pw_or1 (pt_cmpR Ftx.op_isT (pv 1) pe_bl (nomark _)))))
    (pss_one (ps_ret pe_bl))
    pss_nil)
    (pss_cons (ps_if (PW.pt (pw_or (pt_cmpR op_isN1 (pv 0) pe_non (nomark _)) (pw_or1 (pt_cmpR op_isN1 (pv 1) pe_non (nomark _)))))
    (pss_one (ps_ret pe_non))
    pss_nil)
    (pss_one (ps_ret pe_bl)))), ?_⟩
  rcases x with _ | _ | _ <;> rcases y with _ | _ | _ <;> dsimp only [oV, and3] at q ⊢ <;> walk_at "g" <;> exact q
theorem ok_negated (W : Ws K mg ad) : Cl P w K mg base 1 "negated" spNeg := by
  refine cl_mk W.d_negated sc_negated (fun _ _ _ _ _ _ us hl => match us, hl with | [_], _ => rfl) (fun vs H Q E h => ?_) (fun f cdv A outer s H vs Q E hr h => ?_)
  · obtain ⟨b, rfl, _⟩ := h; rfl
  obtain ⟨b, rfl, q⟩ := h
  refine ⟨_, (pss_cons (ps_if (pt_cmpR op_isN1 (pv 0) pe_non (nomark _))
    (pss_one (ps_ret pe_non))
    pss_nil)
    (pss_one (ps_ret (pe_not (pv 0))))), ?_⟩
  walk_at "g"
  exact q
theorem ok_asked (W : Ws K mg ad) (c_negated : Cl P w K mg base 1 "negated" spNeg) : Cl P w K mg base 2 "asked" spAskd := by
  refine cl_mk W.d_asked sc_asked (fun _ _ _ _ _ _ us hl => match us, hl with | [_, _], _ => rfl) (fun vs H Q E h => ?_) (fun f cdv A outer s H vs Q E hr h => ?_)
  · obtain ⟨b, rfl, _⟩ := h; rfl
  obtain ⟨b, rfl, q⟩ := h
  refine ⟨_, (pss_one (ps_ret (pe_ifExp (pt_val (pv 1)) (pe_cl c_negated hr (by first | decide | omega) rfl passL (pa_cons (pv 0) pa_nil)) (pv 0)))), ?_⟩
  walk_at "g"
  exact ⟨b, rfl, q⟩
end
end K24
end

section
-- part K24C
set_option Elab.async false
set_option linter.all false
set_option maxRecDepth 100000
set_option maxHeartbeats 800000
open PySem PySem.Spec PyProof.Rows L2 Fw
local macro_rules | `(tactic| walk_at "e1") => `(tactic| first
  | ((with_reducible refine' w_var ?hv ?_); (case hv => rfl))
  | ((with_reducible refine' K24.w_ixA ?hh ?ha ?_); (case hh => first | assumption | exact upd_same); (case ha => rfl))
  | ((with_reducible refine' K24.w_eqLF ?hl ?_); (case hl => decide +kernel))
  | ((with_reducible refine' K24.w_eqLT ?hl ?_); (case hl => rfl))
  | ((with_reducible refine' K24.w_neLF ?hl ?_); (case hl => decide +kernel))
  | ((with_reducible refine' K24.w_neLT ?hl ?_); (case hl => rfl))
  | with_reducible refine Fw.w_notV ?_
  | with_reducible refine F24.w_iZipM ?_
  | with_reducible refine F24.w_iZipA ?_
  | with_reducible refine Fge.w_cld ?_
  | with_reducible refine w_c ?_
  | with_reducible refine w_op ?_
  | with_reducible refine w_un ?_
  | with_reducible refine w_cons ?_
  | with_reducible refine w_nil ?_
  | with_reducible refine w_cl ?_
  | with_reducible refine w_cb ?_
  | with_reducible refine w_gname ?_
  | with_reducible refine w_gsub ?_
  | with_reducible refine w_test ?_
  | with_reducible refine w_B ?_
  | with_reducible refine w_bl ?_
  | with_reducible refine w_and ?_
  | with_reducible refine w_or ?_
  | with_reducible refine w_not ?_
  | with_reducible refine w_if ?_
  | with_reducible refine w_I0 ?_
  | with_reducible refine Gk.w_rU ?_
  | with_reducible refine Dq.w_orV ?_
  | with_reducible refine Dq.w_js ?_
  | with_reducible refine Dq.w_js0 ?_
  | with_reducible refine Dq.w_fm ?_
  | with_reducible refine Dq.w_andV ?_
  | with_reducible refine Gk.w_iEnum ?_
  | with_reducible refine Dq.w_dget ?_
  | with_reducible refine Dq.w_dpop1 ?_
  | with_reducible refine Dq.w_ddel ?_
  | with_reducible refine Dq.w_din ?_
  | with_reducible refine Dq.w_dnotin ?_
  | with_reducible refine Dq.w_dget2 ?_
  | with_reducible refine Dq.w_dnew ?_
  | with_reducible refine Dq.w_fldaug ?_
  | with_reducible refine Dq.w_aSub ?_
  | with_reducible refine Dq.w_aAdd ?_
  | with_reducible refine Dq.w_mkd ?_
  | with_reducible refine Dq.w_notN0 ?_
  | with_reducible refine Dq.w_isN0 ?_
  | with_reducible refine Ftw.w_isTI ?_
  | with_reducible refine Ftw.w_isTS ?_
  | with_reducible refine Ftw.w_isTR ?_
  | with_reducible refine Ftw.w_isTN ?_
  | with_reducible refine Ftw.w_isTtt ?_
  | with_reducible refine Ftw.w_isTft ?_
  | with_reducible refine Ftw.w_isTtf ?_
  | with_reducible refine Ftw.w_isNS ?_
  | with_reducible refine Ftw.w_isNB ?_
  | ((with_reducible refine' Ftw.w_isiRS ?hq ?_); (case hq => assumption))
  | ((with_reducible refine' Ftw.w_isiRT ?hq ?_); (case hq => assumption))
  | ((with_reducible refine' Ftw.w_isiRI ?hq ?_); (case hq => assumption))
  | with_reducible refine Ftw.w_isiIT ?_
  | with_reducible refine Ftw.w_isiII ?_
  | with_reducible refine Dq.w_notNR ?_
  | with_reducible refine Dq.w_isNR ?_
  | with_reducible refine Dq.w_notNI ?_
  | with_reducible refine Dq.w_isNI ?_
  | with_reducible refine L2.w_neOs ?_
  | with_reducible refine w_ipI ?_
  | with_reducible refine w_eqS ?_
  | with_reducible refine w_neS ?_
  | with_reducible refine w_eqI ?_
  | with_reducible refine w_neI ?_
  | with_reducible refine w_eqB ?_
  | with_reducible refine w_neB ?_
  | ((with_reducible refine w_eq ?hs ?_); (case hs => rfl))
  | ((with_reducible refine w_ne ?hs ?_); (case hs => rfl))
  | with_reducible refine w_fld ?_
  | with_reducible refine w_bm ?_
  | with_reducible refine w_bm0 ?_
  | with_reducible refine w_sl ?_
  | with_reducible refine w_part ?_
  | with_reducible refine w_partI ?_
  | with_reducible refine w_nopart ?_
  | ((with_reducible refine' w_ixL ?hh ?ha ?_); (case hh => first | assumption | exact upd_same); (case ha => rfl))
  | ((with_reducible refine' w_setLu ?ha ?_); (case ha => rfl))
  | ((with_reducible refine' w_setL ?hh ?ha ?_); (case hh => first | assumption | exact upd_same); (case ha => rfl))
  | with_reducible refine w_iteT ?_
  | with_reducible refine w_iteF ?_
  | with_reducible refine w_lst ?_
  | with_reducible refine w_tup ?_
  | ((with_reducible refine w_new ?hz ?_); (case hz => rfl))
  | with_reducible refine w_lc ?_
  | with_reducible refine w_iL ?_
  | with_reducible refine w_iT ?_
  | with_reducible refine w_iR1 ?_
  | with_reducible refine w_iR2 ?_
  | with_reducible refine w_yes ?_
  | with_reducible refine w_iStr ?_
  | with_reducible exact tyS
  | with_reducible refine And.intro tyS ?_
  | ((with_reducible refine w_find3 ?_); (first | rw [find3_one] | rw [starts3] | skip))
  | ((with_reducible refine w_2s ?_); (try rw [find_one]))
  | ((with_reducible refine w_inS ?_); rw [S_list])
  | ((with_reducible refine w_lenS ?hz ?_); (case hz => first | assumption | omega | decide); rw [SX.S_len])
  | ((with_reducible refine w_addS ?hz ?_); (case hz => first | assumption | omega | decide); rw [vS_cat])
  | with_reducible refine w_mk ?_
  | with_reducible refine w_me ?_
  | with_reducible refine w_sfld ?_
  | ((with_reducible refine' w_gtup ?hh ?hn ?_); (case hh => first | assumption | exact upd_same); (case hn => rfl))
  | with_reducible refine w_gcons ?_
  | with_reducible refine w_gnil ?_
  | with_reducible refine w_repl ?_
  | with_reducible refine w_star ?_
  | with_reducible refine w_revL ?_
  | with_reducible refine w_isiS ?_
  | with_reducible refine w_isiI ?_
  | with_reducible refine w_isiN ?_
  | with_reducible refine w_chain ?_
  | with_reducible refine w_iEnumT ?_
  | with_reducible refine w_iZip3 ?_
  | with_reducible refine w_iZip ?_
  | with_reducible refine w_lenR3 ?_
  | with_reducible refine w_x1i ?_
  | with_reducible refine w_x1b ?_
  | with_reducible refine w_x1s ?_
  | with_reducible refine w_int1i ?_
  | with_reducible refine w_int1b ?_
  | ((with_reducible refine w_mod ?hc ?_); (case hc => omega))
  | ((with_reducible refine w_fdivW ?hc ?hd ?_); (case hc => omega); (case hd => omega))
  | ((with_reducible refine w_mul ?hc ?_); (case hc => first | exact Or.inr ⟨by decide, by decide⟩ | exact Or.inl ⟨by decide, by decide⟩))
  | ((with_reducible refine w_pow ?hc ?_); (case hc => exact ⟨by decide, by decide, by decide⟩)))
local macro_rules | `(tactic| walk_at "f1") => `(tactic| first
  | ((with_reducible refine' K24.g_rows ?hW ?hK ?hs ?hx ?_); (case hW => assumption); (case hK => rfl); (case hs => rfl); (case hx => first | assumption | exact upd_same))
  | ((with_reducible refine' K24.g_kept ?hW ?hK ?hs ?hx ?_); (case hW => assumption); (case hK => rfl); (case hs => rfl); (case hx => first | assumption | exact upd_same))
  | ((with_reducible refine' K24.g_origin ?hW ?hK ?hs ?hx ?_); (case hW => assumption); (case hK => rfl); (case hs => rfl); (case hx => first | assumption | exact upd_same))
  | ((with_reducible refine' K24.g_equals ?hW ?hK ?hs ?hx ?_); (case hW => assumption); (case hK => rfl); (case hs => rfl); (case hx => first | assumption | exact upd_same))
  | ((with_reducible refine' K24.g_low ?hW ?hK ?hs ?hx ?_); (case hW => assumption); (case hK => rfl); (case hs => rfl); (case hx => first | assumption | exact upd_same))
  | ((with_reducible refine' K24.g_high ?hW ?hK ?hs ?hx ?_); (case hW => assumption); (case hK => rfl); (case hs => rfl); (case hx => first | assumption | exact upd_same))
  | walk_at "e1")
local macro_rules | `(tactic| walk_at "s1") => `(tactic| first
  | with_reducible refine w_seq ?_
  | with_reducible refine w_asg ?_
  | with_reducible refine w_ret ?_
  | with_reducible refine w_par ?_
  | with_reducible refine w_drop ?_
  | with_reducible refine w_next ?_
  | with_reducible refine w_ifs ?_
  | ((with_reducible refine' w_aug ?hv ?_); (case hv => rfl))
  | with_reducible refine w_for ?_
  | walk_at "f1")
local macro_rules | `(tactic| walk_at "e") => `(tactic| repeat walk_at "e1")
local macro_rules | `(tactic| walk_at "g") => `(tactic| repeat walk_at "s1")
local macro_rules | `(tactic| walk_at "n1") => `(tactic| ((fail_if_success (with_reducible refine w_if ?_)); walk_at "s1"))
local macro_rules | `(tactic| walk_at "n") => `(tactic| repeat walk_at "n1")
local macro_rules | `(tactic| walk_at "p1") => `(tactic| ((fail_if_success (with_reducible refine w_ifs ?_)); walk_at "s1"))
local macro_rules | `(tactic| walk_at "p") => `(tactic| repeat walk_at "p1")
local macro_rules | `(tactic| walk_at "q1") => `(tactic| ((fail_if_success (with_reducible refine w_seq ?_)); walk_at "s1"))
local macro_rules | `(tactic| walk_at "q") => `(tactic| repeat walk_at "q1")

namespace K24
open Dc Gk M24 M5
def spNul : Sp := fun vs H Q _ => ∃ e t : Addr, vs = [.ref e, .ref t] ∧ Q .non H
def spKno : Sp := fun vs H Q _ => ∃ (e t : Addr) (g v : V), vs = [.ref e, .ref t] ∧ H t = some (.tup [g, v]) ∧ Q v H
def spFld (ad : Ad) : Sp := fun vs H Q _ => ∃ (e t : Addr) (m : Nat) (row : List RV) (p : Nat) (v : RV), vs = [.ref e, .ref t] ∧ EvO ad H e m row ∧ H t = some (.tup (fldX p)) ∧ row[p]? = some v ∧ Q (vV v) H
def spCmp (ad : Ad) (n : Nat) : Sp := fun vs H Q _ => ∃ (e t : Addr) (m : Nat) (row : List RV) (g : Sg) (x y : Addr) (u v : RV), vs = [.ref e, .ref t] ∧ EvO ad H e m row ∧ H t = some (.tup [.str (Str.ofString "cmp"), .str (sgS g), .ref x, .ref y]) ∧ TV row H n x (vV u) ∧ TV row H n y (vV v) ∧ Fit u v ∧ Q (oV (cmpV g u v)) H
def spAnd (ad : Ad) (n : Nat) : Sp := fun vs H Q _ => ∃ (e t : Addr) (m : Nat) (row : List RV) (x y : Addr) (u v : Option Bool), vs = [.ref e, .ref t] ∧ EvO ad H e m row ∧ H t = some (.tup [.str (Str.ofString "and"), .ref x, .ref y]) ∧ TV row H n x (oV u) ∧ TV row H n y (oV v) ∧ Q (oV (and3 u v)) H
def spIsn (ad : Ad) (n : Nat) : Sp := fun vs H Q _ => ∃ (e t : Addr) (m : Nat) (row : List RV) (x : Addr) (u : RV), vs = [.ref e, .ref t] ∧ EvO ad H e m row ∧ H t = some (.tup [.str (Str.ofString "isnull"), .ref x, .bl true]) ∧ TV row H n x (vV u) ∧ Q (.bl (!decide (u = .non))) H
def spVal (ad : Ad) (n : Nat) : Sp := fun vs H Q _ => ∃ (e t : Addr) (m : Nat) (row : List RV) (v : V), vs = [.ref e, .ref t] ∧ EvO ad H e m row ∧ TV row H n t v ∧ Q v H
/-- the defs that VALUES holds, and what they do -/
inductive SF (mg : Str → Option Value) (ad : Ad) : Nat → Addr → Sp → Prop
  | nul {n f} : mg "null_value" = some (.ref f) → SF mg ad n f spNul
  | kno {n f} : mg "known_value" = some (.ref f) → SF mg ad n f spKno
  | fld {n f} : mg "field_value" = some (.ref f) → SF mg ad n f (spFld ad)
  | cmp {n f} : mg "comparison_truth" = some (.ref f) → SF mg ad (n + 1) f (spCmp ad n)
  | and {n f} : mg "and_truth" = some (.ref f) → SF mg ad (n + 1) f (spAnd ad n)
  | isn {n f} : mg "isnull_truth" = some (.ref f) → SF mg ad (n + 1) f (spIsn ad n)
section
variable {P : Program} {w : World} {K : PySem.W.Frag} {mg : Str → Option Value} {base : Heap} {ad : Ad}
theorem EvO.at {H : Hp} {e : Addr} {m : Nat} {row : List RV} (h : EvO ad H e m row) {g : Str} (hg : ∀ v1 v2 : V, (FE v1 v2).lookup g = none) {R : Prop} (q : R) : ∃ a dx fs, V.ref e = .ref a ∧ H a = some (.ins ad.E dx fs) ∧ fs.lookup g = none ∧ R := by
  obtain ⟨dx, r, kd, a, rest, h1, _⟩ := h
  exact ⟨e, dx, _, rfl, h1, hg _ _, q⟩
theorem ok_null_value (W : Ws K mg ad) : Cl P w K mg base 1 "null_value" spNul := by
  refine cl_mk W.d_null_value sc_null_value (fun _ _ _ _ _ _ us hl => match us, hl with | [_, _], _ => rfl) (fun vs H Q E h => ?_) (fun f cdv A outer s H vs Q E hr h => ?_)
  · obtain ⟨e, t, rfl, _⟩ := h; rfl
  obtain ⟨e, t, rfl, q⟩ := h
  refine ⟨_, (pss_one (ps_ret pe_non)), ?_⟩
  walk_at "g"
  exact q
theorem ok_known_value (W : Ws K mg ad) : Cl P w K mg base 1 "known_value" spKno := by
  refine cl_mk W.d_known_value sc_known_value (fun _ _ _ _ _ _ us hl => match us, hl with | [_, _], _ => rfl) (fun vs H Q E h => ?_) (fun f cdv A outer s H vs Q E hr h => ?_)
  · obtain ⟨e, t, g, v, rfl, _⟩ := h; rfl
  obtain ⟨e, t, g, v, rfl, ht, q⟩ := h
  refine ⟨_, (pss_one (ps_ret (pe_ix ix_tup (pv 1) pe_int (fun _ _ => rfl)))), ?_⟩
  walk_at "g"
  exact q
theorem ok_field_value (W : Ws K mg ad) : Cl P w K mg base 1 "field_value" (spFld ad) := by
  refine cl_mk W.d_field_value sc_field_value (fun _ _ _ _ _ _ us hl => match us, hl with | [_, _], _ => rfl) (fun vs H Q E h => ?_) (fun f cdv A outer s H vs Q E hr h => ?_)
  · obtain ⟨e, t, m, row, p, v, rfl, _⟩ := h; rfl
  obtain ⟨e, t, m, row, p, v, rfl, ⟨dx, r, kd, a, rest, he, hrw, hm, ha⟩, ht, hv, q⟩ := h
  have hp : p < row.length := (List.getElem?_eq_some_iff.mp hv).1
  have ht2 : H t = some (.tup [.str (Str.ofString "field"), .int 0, .int (p : Int)]) := ht
  clear ht
  refine ⟨_, (pss_cons (ps_asg (pv 1) (pg_tup rfl (pgs_cons (pg_name (i := 2) sc_field_value.nd rfl (Or.inl rfl)) (pgs_cons (pg_name (i := 3) sc_field_value.nd rfl (Or.inl rfl)) (pgs_cons (pg_name (i := 4) sc_field_value.nd rfl (Or.inl rfl)) pgs_nil)))))
    (pss_cons (ps_if (PW.pt (pw_or (pt_not (pt_chain op_le op_lt pe_int (pv 3) (pe_callB call_len_seq rfl W.n_len PySem.boot_len (pa_cons (pe_fld (pv 0) rfl) pa_nil)))) (pw_or1 (pt_not (pt_chain op_le op_lt pe_int (pv 4) (pe_callB call_len_seq rfl W.n_len PySem.boot_len (pa_cons (pe_ix ix_tup (pe_fld (pv 0) rfl) (pv 3) (fun _ _ => rfl)) pa_nil)))))))
    (pss_one ps_never)
    pss_nil)
    (pss_one (ps_ret (pe_ix ix_tup (pe_ix ix_tup (pe_fld (pv 0) rfl) (pv 3) (fun _ _ => rfl)) (pv 4) (fun _ _ => rfl)))))), ?_⟩
  walk_at "g"
  refine w_iteD (fun _ => ?_) (fun c => absurd (by decide) c)
  walk_at "g"
  refine ⟨r, _, rfl, .inr (SqT.of hrw), ?_⟩
  walk_at "g"
  rw [decide_eq_true (show (0 : Int) < ((V.ref a :: rest).length : Int) by rw [List.length_cons]; omega)]
  walk_at "g"
  rw [Bool.not_true]
  walk_at "g"
  refine w_iteD (fun _ => ?_) (fun c => absurd (show (0 : Int) ≤ (p : Int) by omega) c)
  walk_at "g"
  refine w_ixA hrw (show atI _ ((0 : Nat) : Int) = _ from atI_nat rfl) ?_
  walk_at "g"
  refine ⟨a, _, rfl, .inr (SqT.of ha), ?_⟩
  walk_at "g"
  rw [decide_eq_true (show (p : Int) < ((row.map vV).length : Int) by rw [List.length_map]; omega)]
  walk_at "g"
  rw [Bool.not_true]
  walk_at "g"
  refine w_ixA hrw (show atI _ ((0 : Nat) : Int) = _ from atI_nat rfl) ?_
  walk_at "g"
  refine w_ixA ha (atI_nat (by rw [List.getElem?_map, hv]; rfl)) ?_
  exact q
theorem ok_valueS (n k : Nat) (W : Ws K mg ad) (D : Wk K w mg ad) (cF : Fge.ClF P w K mg base k (SF mg ad n)) : Me P w K mg base (k + 1) ad.E "value_of" (spVal ad n) := by
  refine me_mk W.e_value_of W.e_cl sc_Evaluator_value_of (fun _ _ _ _ _ _ us hl => match us, hl with | [_, _], _ => rfl) (fun vs H Q E h => ?_) (fun f cdv A outer s H vs Q E hr h => ?_)
  · obtain ⟨e, t, m, row, v, rfl, _⟩ := h; rfl
  obtain ⟨e, t, m, row, v, rfl, he, ht, q⟩ := h
  obtain ⟨es, nn, KD_VALUES⟩ := D.V
  refine ⟨_, (pss_cons (ps_if (pt_cmpR (op_notIn_kd KD_VALUES) (pe_ix ix_tup (pv 1) pe_int (fun _ _ => rfl)) (C8.pe_gc rfl W.c_VALUES) (by with_unfolding_all rfl))
    (pss_one ps_never)
    pss_nil)
    (pss_cons (ps_set (i := 2) sc_Evaluator_value_of.nd rfl (Or.inl rfl) (pe_ix ix_kdict (C8.pe_gc rfl W.c_VALUES) (pe_ix ix_tup (pv 1) pe_int (fun _ _ => rfl)) (fun _ _ => rfl)))
    (pss_one (ps_ret (Fge.pe_clF (i := 2) cF hr (by omega) rfl (.inl rfl) passL (pa_cons (pv 0) (pa_cons (pv 1) pa_nil))))))), ?_⟩
  obtain ⟨z, rest, g, sp, h1, h2, h3, h4⟩ : ∃ (z : Str) (rest : List V) (g : Addr) (sp : Sp), H t = some (.tup (.str z :: rest)) ∧ PySem.W.nsIn K ad.V z = some (some (.ref g)) ∧ SF mg ad n g sp ∧ ∀ E', sp [.ref e, .ref t] H Q E' := by
    cases ht with
    | @lit _ _ v h =>
      cases v with
      | non => obtain ⟨g, h1, h2⟩ := D.v_null; exact ⟨_, _, g, _, h, h2, .nul h1, fun _ => ⟨e, t, rfl, q⟩⟩
      | txt l => obtain ⟨g, h1, h2⟩ := D.v_text; exact ⟨_, _, g, _, h, h2, .kno h1, fun _ => ⟨e, t, _, _, rfl, h, q⟩⟩
      | num l => obtain ⟨g, h1, h2⟩ := D.v_int; exact ⟨_, _, g, _, h, h2, .kno h1, fun _ => ⟨e, t, _, _, rfl, h, q⟩⟩
    | fld h hv => obtain ⟨g, h1, h2⟩ := D.v_field; exact ⟨_, _, g, _, h, h2, .fld h1, fun _ => ⟨e, t, m, row, _, _, rfl, he, h, hv, q⟩⟩
    | isn h hx => obtain ⟨g, h1, h2⟩ := D.v_isnull; exact ⟨_, _, g, _, h, h2, .isn h1, fun _ => ⟨e, t, m, row, _, _, rfl, he, h, hx, q⟩⟩
    | cmp h hx hy hf => obtain ⟨g, h1, h2⟩ := D.v_cmp; exact ⟨_, _, g, _, h, h2, .cmp h1, fun _ => ⟨e, t, m, row, _, _, _, _, _, rfl, he, h, hx, hy, hf, q⟩⟩
    | and h hx hy => obtain ⟨g, h1, h2⟩ := D.v_and; exact ⟨_, _, g, _, h, h2, .and h1, fun _ => ⟨e, t, m, row, _, _, _, _, rfl, he, h, hx, hy, q⟩⟩
  walk_at "g"
  refine w_ixA h1 (show atI _ ((0 : Nat) : Int) = _ from atI_nat rfl) ?_
  walk_at "g"
  refine ⟨_, _, rfl, rfl, h2, false, rfl, ?_⟩
  walk_at "g"
  refine w_ixA h1 (show atI _ ((0 : Nat) : Int) = _ from atI_nat rfl) ?_
  walk_at "g"
  refine w_kdIx (v := .ref g) KD_VALUES h2 rfl ?_
  walk_at "g"
  refine ⟨g, sp, rfl, h3, ?_⟩
  walk_at "g"
  exact h4 _
theorem ok_cmp (n : Nat) (W : Ws K mg ad) (c_compare : Cl P w K mg base 3 "compare" spComp) (c_Evaluator_value_of : Me P w K mg base (2 * n + 4) ad.E "value_of" (spVal ad n)) : Cl P w K mg base (2 * n + 5) "comparison_truth" (spCmp ad n) := by
  refine cl_mk W.d_comparison_truth sc_comparison_truth (fun _ _ _ _ _ _ us hl => match us, hl with | [_, _], _ => rfl) (fun vs H Q E h => ?_) (fun f cdv A outer s H vs Q E hr h => ?_)
  · obtain ⟨e, t, m, row, g, x, y, u, v, rfl, _⟩ := h; rfl
  obtain ⟨e, t, m, row, g, x, y, u, v, rfl, he, ht, hx, hy, hf, q⟩ := h
  refine ⟨_, (pss_one (ps_ret (pe_cl c_compare hr (by first | decide | omega) rfl passL (pa_cons (pe_ix ix_tup (pv 1) pe_int (fun _ _ => rfl)) (pa_cons (pe_me c_Evaluator_value_of hr (by first | decide | omega) passL (pv 0) (pa_cons (pe_ix ix_tup (pv 1) pe_int (fun _ _ => rfl)) pa_nil)) (pa_cons (pe_me c_Evaluator_value_of hr (by first | decide | omega) passL (pv 0) (pa_cons (pe_ix ix_tup (pv 1) pe_int (fun _ _ => rfl)) pa_nil)) pa_nil)))))), ?_⟩
  walk_at "g"
  refine he.at no_value ?_
  walk_at "g"
  refine ⟨e, x, m, row, _, rfl, he, hx, ?_⟩
  walk_at "g"
  refine he.at no_value ?_
  walk_at "g"
  refine ⟨e, y, m, row, _, rfl, he, hy, ?_⟩
  walk_at "g"
  exact ⟨g, u, v, rfl, hf, q⟩
theorem ok_and (n : Nat) (W : Ws K mg ad) (c_both : Cl P w K mg base 1 "both" spBoth) (c_Evaluator_value_of : Me P w K mg base (2 * n + 4) ad.E "value_of" (spVal ad n)) : Cl P w K mg base (2 * n + 5) "and_truth" (spAnd ad n) := by
  refine cl_mk W.d_and_truth sc_and_truth (fun _ _ _ _ _ _ us hl => match us, hl with | [_, _], _ => rfl) (fun vs H Q E h => ?_) (fun f cdv A outer s H vs Q E hr h => ?_)
  · obtain ⟨e, t, m, row, x, y, u, v, rfl, _⟩ := h; rfl
  obtain ⟨e, t, m, row, x, y, u, v, rfl, he, ht, hx, hy, q⟩ := h
  refine ⟨_, (pss_cons (ps_set (i := 2) sc_and_truth.nd rfl (Or.inl rfl) (pe_me c_Evaluator_value_of hr (by first | decide | omega) passL (pv 0) (pa_cons (pe_ix ix_tup (pv 1) pe_int (fun _ _ => rfl)) pa_nil)))
    (pss_cons (ps_if (pt_cmpR Ftx.op_isT (pv 2) pe_bl (nomark _))
    (pss_one (ps_ret pe_bl))
    pss_nil)
    (pss_one (ps_ret (pe_cl c_both hr (by first | decide | omega) rfl passL (pa_cons (pv 2) (pa_cons (pe_me c_Evaluator_value_of hr (by first | decide | omega) passL (pv 0) (pa_cons (pe_ix ix_tup (pv 1) pe_int (fun _ _ => rfl)) pa_nil)) pa_nil))))))), ?_⟩
  walk_at "g"
  refine he.at no_value ?_
  walk_at "g"
  refine ⟨e, x, m, row, _, rfl, he, hx, ?_⟩
  · rcases u with _ | _ | _
    · rw [show oV none = V.non from rfl]
      walk_at "g"
      refine he.at no_value ?_
      walk_at "g"
      refine ⟨e, y, m, row, _, rfl, he, hy, ?_⟩
      walk_at "g"
      exact ⟨none, v, rfl, q⟩
    · rw [show oV (some false) = V.bl false from rfl]
      walk_at "g"
      exact q
    · rw [show oV (some true) = V.bl true from rfl]
      walk_at "g"
      refine he.at no_value ?_
      walk_at "g"
      refine ⟨e, y, m, row, _, rfl, he, hy, ?_⟩
      walk_at "g"
      exact ⟨some true, v, rfl, q⟩
theorem ok_isn (n : Nat) (W : Ws K mg ad) (c_asked : Cl P w K mg base 2 "asked" spAskd) (c_Evaluator_value_of : Me P w K mg base (2 * n + 4) ad.E "value_of" (spVal ad n)) : Cl P w K mg base (2 * n + 5) "isnull_truth" (spIsn ad n) := by
  refine cl_mk W.d_isnull_truth sc_isnull_truth (fun _ _ _ _ _ _ us hl => match us, hl with | [_, _], _ => rfl) (fun vs H Q E h => ?_) (fun f cdv A outer s H vs Q E hr h => ?_)
  · obtain ⟨e, t, m, row, x, u, rfl, _⟩ := h; rfl
  obtain ⟨e, t, m, row, x, u, rfl, he, ht, hx, q⟩ := h
  refine ⟨_, (pss_one (ps_ret (pe_cl c_asked hr (by first | decide | omega) rfl passL (pa_cons (pe_cmpR op_isN1 (pe_me c_Evaluator_value_of hr (by first | decide | omega) passL (pv 0) (pa_cons (pe_ix ix_tup (pv 1) pe_int (fun _ _ => rfl)) pa_nil)) pe_non (nomark _)) (pa_cons (pe_ix ix_tup (pv 1) pe_int (fun _ _ => rfl)) pa_nil))))), ?_⟩
  walk_at "g"
  refine he.at no_value ?_
  walk_at "g"
  refine ⟨e, x, m, row, _, rfl, he, hx, ?_⟩
  walk_at "g"
  refine w_isNV ?_
  walk_at "g"
  exact ⟨_, rfl, q⟩
theorem cl_at {k j : Nat} {x : Str} {sp : Sp} {f : Addr} (c : Cl P w K mg base j x sp) (hj : j ≤ k) (h : mg x = some (.ref f)) : ∃ (fd : FuncData) (ps : List Str), FnOk P w K mg base (L2.CX P w) k f fd ps sp ∧ PySem.W.keepIn K (.ref f) = true ∧ Binds K fd ps [] := by
  obtain ⟨f', fd, ps, F, m, kp, b⟩ := c.ex
  rw [h] at m
  cases m
  exact ⟨fd, ps, F.mono hj, kp, b⟩
theorem ok_value (W : Ws K mg ad) (D : Wk K w mg ad) (nv : Cl P w K mg base 1 "null_value" spNul) (kv : Cl P w K mg base 1 "known_value" spKno) (fv : Cl P w K mg base 1 "field_value" (spFld ad)) (cm : Cl P w K mg base 3 "compare" spComp)
    (bo : Cl P w K mg base 1 "both" spBoth) (as : Cl P w K mg base 2 "asked" spAskd) : ∀ n, Me P w K mg base (2 * n + 4) ad.E "value_of" (spVal ad n)
  | 0 => ok_valueS 0 3 W D ⟨fun f sp h => by
      cases h with
      | nul h => exact cl_at nv (by decide) h
      | kno h => exact cl_at kv (by decide) h
      | fld h => exact cl_at fv (by decide) h⟩
  | n + 1 => ok_valueS (n + 1) (2 * n + 5) W D ⟨fun f sp h => by
      have ih := ok_value W D nv kv fv cm bo as n
      cases h with
      | nul h => exact cl_at nv (by omega) h
      | kno h => exact cl_at kv (by omega) h
      | fld h => exact cl_at fv (by omega) h
      | cmp h => exact cl_at (ok_cmp n W cm ih) (Nat.le_refl _) h
      | and h => exact cl_at (ok_and n W bo ih) (Nat.le_refl _) h
      | isn h => exact cl_at (ok_isn n W as ih) (Nat.le_refl _) h⟩
/-! evaluators -/
def spInE (ad : Ad) (K : PySem.W.Frag) : Sp := fun vs H Q _ => ∃ (x dx r : Addr) (xs : List V), vs = [.ref x, .non, .ref r] ∧ H x = some (.ins ad.E dx []) ∧ SqT K H r xs ∧
  ∀ kd H', (∀ a o, a ≠ x → H a = some o → H' a = some o) → H' x = some (.ins ad.E dx (FE (.ref r) kd)) → Q .non H'
theorem ini_len {vs : List V} {H : Hp} {Q : VK} {E : XK} (h : spInE ad K vs H Q E) : vs.length = 3 := by
  obtain ⟨x, dx, r, xs, rfl, _⟩ := h; rfl
theorem ini_body (W : Ws K mg ad) (f : Addr) (cdv : Value) (A : Around) (outer : List Env) (s : Shared) (H : Hp) (vs : List V) (Q : VK) (E : XK) (hr : Room 0 (A.deeper (envOfC "Evaluator.__init__" (defScope s_Evaluator___init__) s.heap.objs.size f cdv))) (h : spInE ad K vs H Q E) :
    ∃ t, PSs (cxOf (L2.CX P w) P w K mg base ["self", "source", "rows"] "Evaluator.__init__" (defScope s_Evaluator___init__) f cdv A outer s H E) (defBody s_Evaluator___init__) t ∧ t { nx := fun _ H' => Q .non H', rt := Q } (start ["self", "source", "rows"] vs) H := by
  obtain ⟨x, dx, r, xs, rfl, hx, hxs, q⟩ := h
  refine ⟨_, (pss_cons (ps_fld (pv 0) (pv 1) rfl)
    (pss_cons (ps_fld (pv 0) (pe_callTy call_tuple_of rfl W.n_tuple (by decide +kernel) (pa_cons (pv 2) pa_nil)) rfl)
    (pss_one (ps_fld (pv 0) pe_dnewK rfl)))), ?_⟩
  walk_at "g"
  refine ⟨x, ad.E, dx, _, rfl, hx, W.e_cl, W.e_origin, by show 0 < 1000; decide, ?_⟩
  rw [pe1]
  walk_at "g"
  have hxs2 : SqT K (upd H x (.ins ad.E dx [(("origin" : Str), V.non)])) r xs := by
    rcases hxs with (h | ⟨o, h⟩) | h
    · exact .inl (.inl (by rw [upd_ne (fun z => by rw [z, hx] at h; cases h)]; exact h))
    · exact .inl (.inr ⟨o, by rw [upd_ne (fun z => by rw [z, hx] at h; cases h)]; exact h⟩)
    · exact .inr h
  refine ⟨r, xs, rfl, .inr ⟨hxs2, ?_⟩⟩
  walk_at "g"
  refine ⟨x, ad.E, dx, _, rfl, upd_same, W.e_cl, W.e_rows, by show 1 < 1000; decide, ?_⟩
  rw [upd_upd, pe2]
  walk_at "g"
  intro kd hkd
  have ne : x ≠ kd := fun z => by rw [← z, upd_same] at hkd; cases hkd
  walk_at "g"
  refine ⟨x, ad.E, dx, _, rfl, by rw [upd_ne ne]; exact upd_same, W.e_cl, W.e_kept_rows, by show 2 < 1000; decide, ?_⟩
  rw [pe3]
  refine q (.ref kd) _ (fun a o n e => ?_) upd_same
  have ak : a ≠ kd := fun z => by
    rw [z] at e n
    rw [upd_ne n, e] at hkd
    cases hkd
  rw [upd_ne n, upd_ne ak, upd_ne n]
  exact e
theorem ok_Ev1 (W : Ws K mg ad) : Dq.Mcd P w K mg base 1 "Evaluator" ad.E (spInE ad K) [.ref ad.em] :=
  Dq.mcd_mk (dvs := [.ref ad.em]) 2 0 W.e_i W.e_g sc_Evaluator___init__ (by simp) rfl (fun _ _ _ _ _ _ _ us its h1 h2 => match us, its, h1, h2 with | [_, _], [_], _, _ => ⟨_, rfl, rfl⟩) (fun _ _ _ _ h => ini_len h) fun f cdv A outer s H vs Q E hr h => ini_body W f cdv A outer s H vs Q E hr h
theorem ok_Ev2 (W : Ws K mg ad) : Dq.Mcd P w K mg base 1 "Evaluator" ad.E (spInE ad K) [] :=
  Dq.mcd_mk (dvs := [.ref ad.em]) 3 1 W.e_i W.e_g sc_Evaluator___init__ (by simp) rfl (fun _ _ _ _ _ _ _ us its h1 h2 => match us, its, h1, h2 with | [_, _, _], [_], _, _ => ⟨_, rfl, rfl⟩) (fun _ _ _ _ h => ini_len h) fun f cdv A outer s H vs Q E hr h => ini_body W f cdv A outer s H vs Q E hr h
def spWith (ad : Ad) (K : PySem.W.Frag) : Sp := fun vs H Q _ => ∃ (e a : Addr) (m : Nat) (row : List RV), vs = [.ref e, .ref a] ∧ EvA K ad H e m ∧ m ≤ 100 ∧ H a = some (.tup (row.map vV)) ∧ ∀ x H', Same H H' → EvO ad H' x m row → Q (.ref x) H'
theorem ok_within (W : Ws K mg ad) (c_Ev2 : Dq.Mcd P w K mg base 1 "Evaluator" ad.E (spInE ad K) []) : Me P w K mg base 3 ad.E "within" (spWith ad K) := by
  refine me_mk W.e_within W.e_cl sc_Evaluator_within (fun _ _ _ _ _ _ us hl => match us, hl with | [_, _], _ => rfl) (fun vs H Q E h => ?_) (fun f cdv A outer s H vs Q E hr h => ?_)
  · obtain ⟨e, a, m, row, rfl, _⟩ := h; rfl
  obtain ⟨e, a, m, row, rfl, ⟨dx, r, kd, xs, he, hxs, hm⟩, hm2, ha, q⟩ := h
  refine ⟨_, (pss_cons (ps_set (i := 2) sc_Evaluator_within.nd rfl (Or.inl rfl) (Dq.pe_mcd c_Ev2 hr (by decide) rfl passL (pa_cons (pe_fld (pv 0) rfl) (pa_cons (pe_tup (pa_cons (pv 1) (StX.pa_star (pe_fld (pv 0) rfl) pa_nil))) pa_nil))))
    (pss_cons (ps_fld (pv 2) (pe_fld (pv 0) rfl) rfl)
    (pss_one (ps_ret (pv 2))))), ?_⟩
  walk_at "g"
  refine ⟨r, xs, rfl, .inl hxs, ?_⟩
  walk_at "g"
  refine ⟨?_, fun t ht => ?_⟩
  · rw [List.append_nil, List.length_cons]
    exact Nat.le_trans (by omega : xs.length + 1 ≤ 200) (by decide)
  rw [List.append_nil]
  have s1 := same_new ht (.tup (V.ref a :: xs))
  have et : (upd H t (.tup (V.ref a :: xs))) t = some (.tup (V.ref a :: xs)) := upd_same
  generalize upd H t (.tup (V.ref a :: xs)) = H1 at s1 et
  have ha1 := s1 _ _ ha
  have he1 := s1 _ _ he
  walk_at "g"
  intro x dx2 hx hdx ne
  refine ⟨x, dx2, t, _, rfl, upd_same, SqT.of (by rw [upd_ne (ne_of_none et hx), upd_ne (ne_of_none et hdx)]; exact et), fun kd2 H2 keep hx2 => ⟨rfl, ?_⟩⟩
  have s2 : Same H1 H2 := fun b o h => keep b o (ne_of_none h hx) (by rw [upd_ne (ne_of_none h hx), upd_ne (ne_of_none h hdx)]; exact h)
  have he2 := s2 _ _ he1
  walk_at "g"
  refine ⟨x, ad.E, dx2, _, rfl, hx2, W.e_cl, W.e_kept_rows, by show 3 < 1000; decide, ?_⟩
  rw [pe4]
  walk_at "g"
  have hxn : H1 x = none := hx
  have s3 : Same H1 (upd H2 x (.ins ad.E dx2 (FE (.ref t) kd))) := fun b o h => by rw [upd_ne (ne_of_none h hxn)]; exact s2 _ _ h
  exact q x _ (s1.trans s3) ⟨dx2, t, kd, a, xs, upd_same, s3 _ _ et, hm, s3 _ _ ha1⟩
end
end K24
end

section
-- part K24D
set_option Elab.async false
set_option linter.all false
set_option maxRecDepth 100000
set_option maxHeartbeats 800000
open PySem PySem.Spec PyProof.Rows L2 Fw
local macro_rules | `(tactic| walk_at "e1") => `(tactic| first
  | ((with_reducible refine' w_var ?hv ?_); (case hv => rfl))
  | ((with_reducible refine' K24.w_ixA ?hh ?ha ?_); (case hh => first | assumption | exact upd_same); (case ha => rfl))
  | ((with_reducible refine' K24.w_eqLF ?hl ?_); (case hl => decide +kernel))
  | ((with_reducible refine' K24.w_eqLT ?hl ?_); (case hl => rfl))
  | ((with_reducible refine' K24.w_neLF ?hl ?_); (case hl => decide +kernel))
  | ((with_reducible refine' K24.w_neLT ?hl ?_); (case hl => rfl))
  | with_reducible refine Fw.w_notV ?_
  | with_reducible refine F24.w_iZipM ?_
  | with_reducible refine F24.w_iZipA ?_
  | with_reducible refine Fge.w_cld ?_
  | with_reducible refine w_c ?_
  | with_reducible refine w_op ?_
  | with_reducible refine w_un ?_
  | with_reducible refine w_cons ?_
  | with_reducible refine w_nil ?_
  | with_reducible refine w_cl ?_
  | with_reducible refine w_cb ?_
  | with_reducible refine w_gname ?_
  | with_reducible refine w_gsub ?_
  | with_reducible refine w_test ?_
  | with_reducible refine w_B ?_
  | with_reducible refine w_bl ?_
  | with_reducible refine w_and ?_
  | with_reducible refine w_or ?_
  | with_reducible refine w_not ?_
  | with_reducible refine w_if ?_
  | with_reducible refine w_I0 ?_
  | with_reducible refine Gk.w_rU ?_
  | with_reducible refine Dq.w_orV ?_
  | with_reducible refine Dq.w_js ?_
  | with_reducible refine Dq.w_js0 ?_
  | with_reducible refine Dq.w_fm ?_
  | with_reducible refine Dq.w_andV ?_
  | with_reducible refine Gk.w_iEnum ?_
  | with_reducible refine Dq.w_dget ?_
  | with_reducible refine Dq.w_dpop1 ?_
  | with_reducible refine Dq.w_ddel ?_
  | with_reducible refine Dq.w_din ?_
  | with_reducible refine Dq.w_dnotin ?_
  | with_reducible refine Dq.w_dget2 ?_
  | with_reducible refine Dq.w_dnew ?_
  | with_reducible refine Dq.w_fldaug ?_
  | with_reducible refine Dq.w_aSub ?_
  | with_reducible refine Dq.w_aAdd ?_
  | with_reducible refine Dq.w_mkd ?_
  | with_reducible refine Dq.w_notN0 ?_
  | with_reducible refine Dq.w_isN0 ?_
  | with_reducible refine Ftw.w_isTI ?_
  | with_reducible refine Ftw.w_isTS ?_
  | with_reducible refine Ftw.w_isTR ?_
  | with_reducible refine Ftw.w_isTN ?_
  | with_reducible refine Ftw.w_isTtt ?_
  | with_reducible refine Ftw.w_isTft ?_
  | with_reducible refine Ftw.w_isTtf ?_
  | with_reducible refine Ftw.w_isNS ?_
  | with_reducible refine Ftw.w_isNB ?_
  | ((with_reducible refine' Ftw.w_isiRS ?hq ?_); (case hq => assumption))
  | ((with_reducible refine' Ftw.w_isiRT ?hq ?_); (case hq => assumption))
  | ((with_reducible refine' Ftw.w_isiRI ?hq ?_); (case hq => assumption))
  | with_reducible refine Ftw.w_isiIT ?_
  | with_reducible refine Ftw.w_isiII ?_
  | with_reducible refine Dq.w_notNR ?_
  | with_reducible refine Dq.w_isNR ?_
  | with_reducible refine Dq.w_notNI ?_
  | with_reducible refine Dq.w_isNI ?_
  | with_reducible refine L2.w_neOs ?_
  | with_reducible refine w_ipI ?_
  | with_reducible refine w_eqS ?_
  | with_reducible refine w_neS ?_
  | with_reducible refine w_eqI ?_
  | with_reducible refine w_neI ?_
  | with_reducible refine w_eqB ?_
  | with_reducible refine w_neB ?_
  | ((with_reducible refine w_eq ?hs ?_); (case hs => rfl))
  | ((with_reducible refine w_ne ?hs ?_); (case hs => rfl))
  | with_reducible refine w_fld ?_
  | with_reducible refine w_bm ?_
  | with_reducible refine w_bm0 ?_
  | with_reducible refine w_sl ?_
  | with_reducible refine w_part ?_
  | with_reducible refine w_partI ?_
  | with_reducible refine w_nopart ?_
  | ((with_reducible refine' w_ixL ?hh ?ha ?_); (case hh => first | assumption | exact upd_same); (case ha => rfl))
  | ((with_reducible refine' w_setLu ?ha ?_); (case ha => rfl))
  | ((with_reducible refine' w_setL ?hh ?ha ?_); (case hh => first | assumption | exact upd_same); (case ha => rfl))
  | with_reducible refine w_iteT ?_
  | with_reducible refine w_iteF ?_
  | with_reducible refine w_lst ?_
  | with_reducible refine w_tup ?_
  | ((with_reducible refine w_new ?hz ?_); (case hz => rfl))
  | with_reducible refine w_lc ?_
  | with_reducible refine w_iL ?_
  | with_reducible refine w_iT ?_
  | with_reducible refine w_iR1 ?_
  | with_reducible refine w_iR2 ?_
  | with_reducible refine w_yes ?_
  | with_reducible refine w_iStr ?_
  | with_reducible exact tyS
  | with_reducible refine And.intro tyS ?_
  | ((with_reducible refine w_find3 ?_); (first | rw [find3_one] | rw [starts3] | skip))
  | ((with_reducible refine w_2s ?_); (try rw [find_one]))
  | ((with_reducible refine w_inS ?_); rw [S_list])
  | ((with_reducible refine w_lenS ?hz ?_); (case hz => first | assumption | omega | decide); rw [SX.S_len])
  | ((with_reducible refine w_addS ?hz ?_); (case hz => first | assumption | omega | decide); rw [vS_cat])
  | with_reducible refine w_mk ?_
  | with_reducible refine w_me ?_
  | with_reducible refine w_sfld ?_
  | ((with_reducible refine' w_gtup ?hh ?hn ?_); (case hh => first | assumption | exact upd_same); (case hn => rfl))
  | with_reducible refine w_gcons ?_
  | with_reducible refine w_gnil ?_
  | with_reducible refine w_repl ?_
  | with_reducible refine w_star ?_
  | with_reducible refine w_revL ?_
  | with_reducible refine w_isiS ?_
  | with_reducible refine w_isiI ?_
  | with_reducible refine w_isiN ?_
  | with_reducible refine w_chain ?_
  | with_reducible refine w_iEnumT ?_
  | with_reducible refine w_iZip3 ?_
  | with_reducible refine w_iZip ?_
  | with_reducible refine w_lenR3 ?_
  | with_reducible refine w_x1i ?_
  | with_reducible refine w_x1b ?_
  | with_reducible refine w_x1s ?_
  | with_reducible refine w_int1i ?_
  | with_reducible refine w_int1b ?_
  | ((with_reducible refine w_mod ?hc ?_); (case hc => omega))
  | ((with_reducible refine w_fdivW ?hc ?hd ?_); (case hc => omega); (case hd => omega))
  | ((with_reducible refine w_mul ?hc ?_); (case hc => first | exact Or.inr ⟨by decide, by decide⟩ | exact Or.inl ⟨by decide, by decide⟩))
  | ((with_reducible refine w_pow ?hc ?_); (case hc => exact ⟨by decide, by decide, by decide⟩)))
local macro_rules | `(tactic| walk_at "f1") => `(tactic| first
  | ((with_reducible refine' K24.g_rows ?hW ?hK ?hs ?hx ?_); (case hW => assumption); (case hK => rfl); (case hs => rfl); (case hx => first | assumption | exact upd_same))
  | ((with_reducible refine' K24.g_kept ?hW ?hK ?hs ?hx ?_); (case hW => assumption); (case hK => rfl); (case hs => rfl); (case hx => first | assumption | exact upd_same))
  | ((with_reducible refine' K24.g_origin ?hW ?hK ?hs ?hx ?_); (case hW => assumption); (case hK => rfl); (case hs => rfl); (case hx => first | assumption | exact upd_same))
  | ((with_reducible refine' K24.g_equals ?hW ?hK ?hs ?hx ?_); (case hW => assumption); (case hK => rfl); (case hs => rfl); (case hx => first | assumption | exact upd_same))
  | ((with_reducible refine' K24.g_low ?hW ?hK ?hs ?hx ?_); (case hW => assumption); (case hK => rfl); (case hs => rfl); (case hx => first | assumption | exact upd_same))
  | ((with_reducible refine' K24.g_high ?hW ?hK ?hs ?hx ?_); (case hW => assumption); (case hK => rfl); (case hs => rfl); (case hx => first | assumption | exact upd_same))
  | walk_at "e1")
local macro_rules | `(tactic| walk_at "s1") => `(tactic| first
  | with_reducible refine w_seq ?_
  | with_reducible refine w_asg ?_
  | with_reducible refine w_ret ?_
  | with_reducible refine w_par ?_
  | with_reducible refine w_drop ?_
  | with_reducible refine w_next ?_
  | with_reducible refine w_ifs ?_
  | ((with_reducible refine' w_aug ?hv ?_); (case hv => rfl))
  | with_reducible refine w_for ?_
  | walk_at "f1")
local macro_rules | `(tactic| walk_at "e") => `(tactic| repeat walk_at "e1")
local macro_rules | `(tactic| walk_at "g") => `(tactic| repeat walk_at "s1")
local macro_rules | `(tactic| walk_at "n1") => `(tactic| ((fail_if_success (with_reducible refine w_if ?_)); walk_at "s1"))
local macro_rules | `(tactic| walk_at "n") => `(tactic| repeat walk_at "n1")
local macro_rules | `(tactic| walk_at "p1") => `(tactic| ((fail_if_success (with_reducible refine w_ifs ?_)); walk_at "s1"))
local macro_rules | `(tactic| walk_at "p") => `(tactic| repeat walk_at "p1")
local macro_rules | `(tactic| walk_at "q1") => `(tactic| ((fail_if_success (with_reducible refine w_seq ?_)); walk_at "s1"))
local macro_rules | `(tactic| walk_at "q") => `(tactic| repeat walk_at "q1")

namespace K24
open Dc Gk M24 M5
def spSign : Sp := fun vs H Q _ => ∃ c : Nat, vs = [.str (S [c])] ∧ c ∈ alphabet ∧ Q (.int (sgn c : Nat)) H
def spKV : Sp := fun vs H Q _ => ∃ v : RV, vs = [vV v] ∧ okv v ∧ GivesT H Q (keyV v)
def spKeyOf (K : PySem.W.Frag) : Sp := fun vs H Q _ => ∃ (a : Addr) (r : List RV), vs = [.ref a] ∧ (SqL K H a (r.map vV) ∨ SqT K H a (r.map vV)) ∧ (∀ v ∈ r, okv v) ∧ (keyR r).length ≤ 100000 ∧ GivesT H Q (keyR r)
def spUp (K : PySem.W.Frag) : Sp := fun vs H Q _ => ∃ (a : Addr) (d : List Int), vs = [.ref a] ∧ SqT K H a (d.map V.int) ∧ d.length ≤ 900000 ∧ match upper d with
  | none => Q .non H
  | some u => GivesT H Q u
theorem vals_get {r : List RV} {i : Nat} {x : V} (h : (r.map vV)[i]? = some x) : ∃ v, r[i]? = some v ∧ x = vV v := map_get h
theorem keyR_take {r : List RV} {i : Nat} {v : RV} (h : r[i]? = some v) : keyR (r.take (i + 1)) = keyR (r.take i) ++ keyV v := by
  rw [List.take_add_one, h]
  simp [keyR]
theorem keyR_le (r : List RV) (i : Nat) : (keyR (r.take i)).length ≤ (keyR r).length := by
  have e : keyR r = keyR (r.take i) ++ keyR (r.drop i) := by
    rw [keyR, keyR, keyR, ← List.flatMap_append, List.take_append_drop]
  rw [e, List.length_append]
  omega
section
variable {P : Program} {w : World} {K : PySem.W.Frag} {mg : Str → Option Value} {base : Heap} {ad : Ad}
theorem ok_sign_number (W : Ws K mg ad) : Cl P w K mg base 1 "sign_number" spSign := by
  refine cl_mk W.d_sign_number sc_sign_number (fun _ _ _ _ _ _ us hl => match us, hl with | [_], _ => rfl) (fun vs H Q E h => ?_) (fun f cdv A outer s H vs Q E hr h => ?_)
  · obtain ⟨c, rfl, _⟩ := h; rfl
  obtain ⟨c, rfl, hc, q1⟩ := h
  refine ⟨_, (pss_cons (ps_set (i := 1) sc_sign_number.nd rfl (Or.inl rfl) (pe_bm PySem.F.plainAttrs_str PySem.F.slot_str_find PySem.F.type_str_find mt_find (C8.pe_gc rfl W.c_ALPHABET) (pa_cons (pv 0) pa_nil)))
    (pss_cons (ps_if (pt_cmpR op_lt (pv 1) pe_int (nomark _))
    (pss_one ps_never)
    pss_nil)
    (pss_one (ps_ret (pv 1))))), ?_⟩
  walk_at "g"
  cases e : alphabet.findIdx? (· == c) with
  | none =>
    have hn : c ∉ alphabet := fun hc => by
      have := List.findIdx?_eq_none_iff.mp e c hc
      simp at this
    simp only [e]
    refine w_iteD (fun c1 => ?_) (fun c1 => ?_)
    · exact absurd hc hn
    · exact absurd (by decide) c1
  | some k =>
    obtain ⟨hk, e1, _⟩ := List.findIdx?_eq_some_iff_getElem.mp e
    have hm : c ∈ alphabet := by
      have := List.getElem_mem hk
      rwa [eq_of_beq e1] at this
    have hs : sgn c = k := by
      have := List.findIdx?_eq_some_iff_findIdx_eq.mp e
      exact this.2
    simp only [e]
    refine w_iteD (fun c1 => ?_) (fun c1 => ?_)
    · exfalso
      have c2 : (k : Int) < 0 := c1
      omega
    · walk_at "g"
      have := q1
      rw [hs] at this
      exact this
theorem ok_fixed (W : Ws K mg ad) : Cl P w K mg base 1 "fixed" spFixed := by
  refine cl_mk W.d_fixed sc_fixed (fun _ _ _ _ _ _ us hl => match us, hl with | [_, _], _ => rfl) (fun vs H Q E h => ?_) (fun f cdv A outer s H vs Q E hr h => ?_)
  · obtain ⟨n, k, rfl, _⟩ := h; rfl
  obtain ⟨n, k, rfl, hk, q⟩ := h
  refine ⟨_, (pss_cons (ps_set (i := 2) sc_fixed.nd rfl (Or.inl rfl) (pe_lst pa_nil))
    (pss_cons (ps_for (passes_of rfl) rfl (pi_range1 rfl W.n_range (pa_cons (pv 1) pa_nil)) (pg_name (i := 3) sc_fixed.nd rfl (Or.inl rfl))
    (pss_cons (ps_expr (pe_bm PySem.F.plainAttrs_list PySem.F.slot_list_append PySem.F.type_list_append mt_append (pv 2) (pa_cons (pe_op op_mod (pv 0) pe_int) pa_nil)))
    (pss_one (ps_set (i := 0) sc_fixed.nd rfl (Or.inl rfl) (pe_op op_fdivW (pv 0) pe_int)))))
    (pss_one (ps_ret (pe_callTy call_tuple_of rfl W.n_tuple (by decide +kernel) (pa_cons (pe_revL (pv 2)) pa_nil)))))), ?_⟩
  walk_at "g"
  intro L hL
  walk_at "g"
  refine w_forRp ⟨by omega, by omega⟩ (fun i σ H' => ∃ (m : Int) (xs : List Int) (v : Option V), σ = [some (.int m), some (.int (k : Int)), some (.ref L), v] ∧ Same H H' ∧ H' L = some (.lst (xs.map V.int)) ∧ xs.length = i ∧ ∀ j, fixedL n (j + i) = fixedL m j ++ xs.reverse)
    ⟨n, [], none, rfl, same_new hL _, upd_same, rfl, fun j => by simp⟩ ?_ ?_
  · rintro i σ H' hi ⟨m, xs, v, rfl, sH, eL, hx, hf⟩
    walk_at "g"
    refine ⟨tyL eL, ?_⟩
    walk_at "g"
    refine w_app eL (by rw [List.length_map]; exact Nat.lt_of_lt_of_le (by omega : xs.length < 64) (by decide)) ?_
    walk_at "g"
    refine ⟨m / 256, xs ++ [m % 256], _, rfl, same_upd sH hL, by rw [upd_same, List.map_append]; rfl, by rw [List.length_append, hx]; rfl, fun j => ?_⟩
    have := hf (j + 1)
    rw [show j + (i + 1) = j + 1 + i by omega, this, fixedL, List.reverse_append, List.append_assoc]
    rfl
  · rintro σ H' ⟨m, xs, v, rfl, sH, eL, hx, hf⟩
    have e0 := hf 0
    have ek : ((k : Int)).toNat = k := by omega
    rw [ek, Nat.zero_add] at e0
    walk_at "g"
    refine ⟨L, xs.map V.int, rfl, SqL.of eL, fun R hR => ?_⟩
    walk_at "g"
    refine ⟨R, (xs.map V.int).reverse, rfl, .inl ⟨SqL.of upd_same, fun p hp => ?_⟩⟩
    refine q p _ ((sH.trans (same_new hR _)).trans (same_new hp _)) (sH.free (Same.free (same_new hR _) hp)) ?_
    rw [upd_same, e0, ← List.map_reverse]
    rfl
theorem ok_key_of_value (W : Ws K mg ad) (c_sign_number : Cl P w K mg base 1 "sign_number" spSign) (c_fixed : Cl P w K mg base 1 "fixed" spFixed) : Cl P w K mg base 2 "key_of_value" spKV := by
  refine cl_mk W.d_key_of_value sc_key_of_value (fun _ _ _ _ _ _ us hl => match us, hl with | [_], _ => rfl) (fun vs H Q E h => ?_) (fun f cdv A outer s H vs Q E hr h => ?_)
  · obtain ⟨v, rfl, _⟩ := h; rfl
  obtain ⟨v, rfl, ⟨ok, okl⟩, q⟩ := h
  refine ⟨_, (pss_cons (ps_if (pt_cmpR op_isN1 (pv 0) pe_non (nomark _))
    (pss_one (ps_ret (pe_tup (pa_cons (C8.pe_gc rfl W.c_NULL_MARK) pa_nil))))
    pss_nil)
    (pss_cons (ps_if (pt_val (pe_callB L2.call_isi rfl W.n_isinstance PyProof.Rows.boot_isinstance (pa_cons (pv 0) (pa_cons (pe_bltn (v := .ty "str") rfl W.n_str (by decide +kernel) rfl) pa_nil))))
    (pss_cons (ps_setLc (i := 1) (own := [("sign", 2)]) rfl sc_key_of_value.nd rfl rfl (sw_true rfl rfl rfl (by decide +kernel)) (pi_str (pv 0)) (blkOk_by (own := [("sign", 2)]) (N := ["value", "signs", "sign"]) (sc := defScope s_key_of_value) (by decide +kernel)) (fun _ _ _ _ _ => (pg_name (i := 2) sc_key_of_value.nd rfl (by first | exact Or.inl rfl | exact Or.inr rfl))) (fun _ _ _ _ _ => pts_nil) (fun _ _ _ _ _ => (pe_op op_add (pe_cl c_sign_number hr (by first | decide | omega) rfl passL (pa_cons (pv 2) pa_nil)) (C8.pe_gc rfl W.c_FIRST_SIGN))))
    (pss_one (ps_ret (pe_tup (pa_cons (C8.pe_gc rfl W.c_TEXT_MARK) (StX.pa_star (pv 1) (pa_cons (C8.pe_gc rfl W.c_TEXT_END) pa_nil)))))))
    pss_nil)
    (pss_one (ps_ret (pe_tup (pa_cons (C8.pe_gc rfl W.c_INT_MARK) (StX.pa_star (pe_cl c_fixed hr (by first | decide | omega) rfl passL (pa_cons (pe_op op_add (pv 0) (C8.pe_gc rfl W.c_HIGHEST)) (pa_cons (C8.pe_gc rfl W.c_INT_BYTES) pa_nil))) pa_nil))))))), ?_⟩
  cases v with
  | non =>
    have q2 : GivesT H Q [1] := q
    rw [show vV .non = V.non from rfl]
    walk_at "g"
    exact fun p hp => q2 p _ (same_new hp _) hp upd_same
  | txt l =>
    have ok2 : ∀ c ∈ l, c ∈ alphabet := ok
    have okl2 : l.length ≤ 10 := okl
    have q2 : GivesT H Q (3 :: (sg l ++ [1])) := q
    rw [show vV (.txt l) = V.str (S l) from rfl]
    walk_at "g"
    refine w_lcS (fun D hD => ⟨fun i H2 => Same H H2 ∧ H2 D = some (.lst ((sg (l.take i)).map V.int)), ⟨same_new hD _, upd_same⟩, ?_, ?_⟩)
    · rintro i c H2 hi ⟨s2, eD⟩
      walk_at "g"
      refine ⟨rfl, ?_⟩
      walk_at "g"
      refine ⟨c, rfl, ok2 c (List.mem_of_getElem? hi), ?_⟩
      walk_at "g"
      have hlt := (List.getElem?_eq_some_iff.mp hi).1
      refine ⟨_, eD, ?_, same_upd s2 hD, ?_⟩
      · simp only [sg, List.length_map, List.length_take]
        exact Nat.lt_of_lt_of_le (by omega : min i l.length < 100) (by decide)
      · rw [upd_same, List.take_add_one, hi]
        simp [sg]
    · rintro H2 ⟨s2, eD⟩
      rw [List.take_length] at eD
      walk_at "g"
      refine ⟨D, _, rfl, .inr (SqL.of eD), ?_⟩
      walk_at "g"
      refine ⟨?_, fun p hp => ?_⟩
      · simp only [List.length_cons, List.length_append, List.length_map, sg, List.length_nil]
        exact Nat.le_trans (by omega : _ ≤ 103) (by decide)
      · refine q2 p _ (s2.trans (same_new hp _)) (s2.free hp) ?_
        rw [upd_same]
        simp
  | num n =>
    have q2 : GivesT H Q (2 :: fixedL (n + HI) 8) := q
    rw [show vV (.num n) = V.int n from rfl]
    walk_at "g"
    refine ⟨n + HI, 8, rfl, by decide, fun p H' sH fp ep => ?_⟩
    refine ⟨p, _, rfl, .inl (SqT.of ep), ?_⟩
    walk_at "g"
    intro p' hp'
    refine q2 p' _ (sH.trans (same_new hp' _)) (sH.free hp') ?_
    rw [upd_same]
    simp
theorem ok_key_of (W : Ws K mg ad) (c_key_of_value : Cl P w K mg base 2 "key_of_value" spKV) : Cl P w K mg base 3 "key_of" (spKeyOf K) := by
  refine cl_mk W.d_key_of sc_key_of (fun _ _ _ _ _ _ us hl => match us, hl with | [_], _ => rfl) (fun vs H Q E h => ?_) (fun f cdv A outer s H vs Q E hr h => ?_)
  · obtain ⟨a, r, rfl, _⟩ := h; rfl
  obtain ⟨a, r, rfl, hS, ok, hz, q⟩ := h
  refine ⟨_, (pss_cons (ps_set (i := 1) sc_key_of.nd rfl (Or.inl rfl) (pe_lst pa_nil))
    (pss_cons (ps_for (passes_of rfl) rfl (F24.or_pi (pi_list (pv 0)) (pi_tup (pv 0))) (pg_name (i := 2) sc_key_of.nd rfl (Or.inl rfl))
    (pss_one (ps_expr (pe_bm PySem.F.plainAttrs_list PySem.F.slot_list_extend PySem.F.type_list_extend mt_extT (pv 1) (pa_cons (pe_cl c_key_of_value hr (by first | decide | omega) rfl passL (pa_cons (pv 2) pa_nil)) pa_nil)))))
    (pss_one (ps_ret (pe_callTy call_tuple_of rfl W.n_tuple (by decide +kernel) (pa_cons (pv 1) pa_nil)))))), ?_⟩
  walk_at "g"
  intro L hL
  walk_at "g"
  rcases hS with hS | hS
  · refine .inl ?_
    walk_at "g"
    refine w_forL (sqL_same hS (same_new hL _)) (fun i σ H' => Same H H' ∧ H' L = some (.lst ((keyR (r.take i)).map V.int)) ∧ ∃ v : Option V, σ = [some (.ref a), some (.ref L), v]) ⟨same_new hL _, upd_same, none, rfl⟩ (fun i σ H' _ h => sqL_same hS h.1) ?_ ?_
    · rintro i x σ H' hi ⟨sH, eL, v, rfl⟩
      obtain ⟨v, hv, rfl⟩ := vals_get hi
      walk_at "g"
      refine ⟨tyL eL, ?_⟩
      walk_at "g"
      refine ⟨v, rfl, ok v (List.mem_of_getElem? hv), fun p H2 s2 fp ep => ?_⟩
      walk_at "g"
      have eL2 := s2 _ _ eL
      have le := keyR_le r (i + 1)
      rw [keyR_take hv, List.length_append] at le
      refine w_extT eL2 (SqT.of ep) (by rw [List.length_map, List.length_map]; exact Nat.le_trans (by omega : _ ≤ 100000) (by decide)) ?_
      walk_at "g"
      refine ⟨same_upd (sH.trans s2) hL, ?_, _, rfl⟩
      rw [upd_same, keyR_take hv, List.map_append]
    · rintro σ H' ⟨sH, eL, v, rfl⟩
      rw [List.length_map, List.take_length] at eL
      walk_at "g"
      refine ⟨L, _, rfl, .inl ⟨SqL.of eL, fun p hp => ?_⟩⟩
      exact q p _ (sH.trans (same_new hp _)) (sH.free hp) upd_same
  · refine .inr ?_
    walk_at "g"
    refine w_forT (sqT_same hS (same_new hL _)) (fun i σ H' => Same H H' ∧ H' L = some (.lst ((keyR (r.take i)).map V.int)) ∧ ∃ v : Option V, σ = [some (.ref a), some (.ref L), v]) ⟨same_new hL _, upd_same, none, rfl⟩ (fun i σ H' _ h => sqT_same hS h.1) ?_ ?_
    · rintro i x σ H' hi ⟨sH, eL, v, rfl⟩
      obtain ⟨v, hv, rfl⟩ := vals_get hi
      walk_at "g"
      refine ⟨tyL eL, ?_⟩
      walk_at "g"
      refine ⟨v, rfl, ok v (List.mem_of_getElem? hv), fun p H2 s2 fp ep => ?_⟩
      walk_at "g"
      have eL2 := s2 _ _ eL
      have le := keyR_le r (i + 1)
      rw [keyR_take hv, List.length_append] at le
      refine w_extT eL2 (SqT.of ep) (by rw [List.length_map, List.length_map]; exact Nat.le_trans (by omega : _ ≤ 100000) (by decide)) ?_
      walk_at "g"
      refine ⟨same_upd (sH.trans s2) hL, ?_, _, rfl⟩
      rw [upd_same, keyR_take hv, List.map_append]
    · rintro σ H' ⟨sH, eL, v, rfl⟩
      rw [List.length_map, List.take_length] at eL
      walk_at "g"
      refine ⟨L, _, rfl, .inl ⟨SqL.of eL, fun p hp => ?_⟩⟩
      exact q p _ (sH.trans (same_new hp _)) (sH.free hp) upd_same
theorem upLen_take (d : List Int) (k : Nat) (h : k < d.length) (hb : d[k]? = some 255) : upLen (d.take (k + 1)) = upLen (d.take k) := by
  rw [List.take_add_one, hb]
  show upLen (d.take k ++ [255]) = _
  rw [upLen_snoc, if_pos rfl]
theorem upLen_stop (d : List Int) (k : Nat) {b : Int} (h : k < d.length) (hb : d[k]? = some b) (hne : b ≠ 255) : upLen (d.take (k + 1)) = k + 1 := by
  rw [List.take_add_one, hb]
  show upLen (d.take k ++ [b]) = _
  rw [upLen_snoc, if_neg hne, List.length_take, Nat.min_eq_left (by omega)]
theorem ok_upper_key (W : Ws K mg ad) : Cl P w K mg base 1 "upper_key" (spUp K) := by
  refine cl_mk W.d_upper_key sc_upper_key (fun _ _ _ _ _ _ us hl => match us, hl with | [_], _ => rfl) (fun vs H Q E h => ?_) (fun f cdv A outer s H vs Q E hr h => ?_)
  · obtain ⟨a, d, rfl, _⟩ := h; rfl
  obtain ⟨a, d, rfl, hS, hd, q⟩ := h
  refine ⟨_, (pss_cons (ps_set (i := 1) sc_upper_key.nd rfl (Or.inl rfl) (pe_callB call_len_seq rfl W.n_len PySem.boot_len (pa_cons (pv 0) pa_nil)))
    (pss_cons (ps_while (passes_of rfl) (PW.pt (pw_and (pt_cmpR op_gt (pv 1) pe_int (nomark _)) (pw_and1 (pt_cmpR op_eq (pe_ix ix_tup (pv 0) (pe_op op_sub (pv 1) pe_int) (fun _ _ => rfl)) pe_int (nomark _)))))
    (pss_one (ps_aug (i := 1) sc_upper_key.nd rfl (Or.inl rfl) pe_int ip_sub)))
    (pss_cons (ps_if (pt_cmpR op_eq (pv 1) pe_int (nomark _))
    (pss_one (ps_ret pe_non))
    pss_nil)
    (pss_one (ps_ret (pe_tup (StX.pa_star (pe_slice sl_tupA (pv 0) po_none (po_some (pe_op op_sub (pv 1) pe_int))) (pa_cons (pe_op op_add (pe_ix ix_tup (pv 0) (pe_op op_sub (pv 1) pe_int) (fun _ _ => rfl)) pe_int) pa_nil)))))))), ?_⟩
  walk_at "g"
  refine ⟨a, _, rfl, .inr hS, ?_⟩
  rw [List.length_map]
  walk_at "g"
  refine w_while (fun m σ H' => σ = [some (.ref a), some (.int (m : Int))] ∧ H' = H ∧ m ≤ d.length ∧ upLen d = upLen (d.take m)) d.length ⟨rfl, rfl, Nat.le_refl _, by rw [List.take_length]⟩ ?_
  rintro m σ H' ⟨rfl, rfl, hm, e⟩
  walk_at "g"
  cases m with
  | zero =>
    refine w_iteD (fun c1 => absurd c1 (by decide)) (fun _ => ?_)
    rw [List.take_zero] at e
    rw [upper, if_pos (by rw [e]; rfl)] at q
    walk_at "g"
    refine w_iteD (fun _ => ?_) (fun c1 => absurd (by rfl) c1)
    walk_at "g"
    exact q
  | succ k =>
    have hk : k < d.length := hm
    have hg := List.getElem?_eq_getElem hk
    generalize d[k] = b at hg
    have ei : ((k + 1 : Nat) : Int) - 1 = (k : Int) := by omega
    refine w_iteD (fun _ => ?_) (fun c1 => absurd (show (0 : Int) < ((k + 1 : Nat) : Int) by omega) c1)
    walk_at "g"
    rw [ei]
    refine w_ixT hS hg ?_
    walk_at "g"
    refine w_iteD (fun c1 => ?_) (fun c1 => ?_)
    · have hb : b = 255 := c1
      subst hb
      refine ⟨fun σ' H2 => σ' = [some (.ref a), some (.int (k : Int))] ∧ H2 = H', ?_, ?_⟩
      · rintro σ' H2 ⟨rfl, rfl⟩
        exact ⟨k, Nat.lt_succ_self _, rfl, rfl, by omega, by rw [e, upLen_take d k hk hg]⟩
      · walk_at "g"
        rw [ei]
        exact ⟨rfl, rfl⟩
    · have hb : b ≠ 255 := c1
      rw [upLen_stop d k hk hg hb] at e
      rw [upper, if_neg (by omega), e] at q
      have e2 : d.getD k 0 = b := by simp [List.getD, hg]
      have q2 : GivesT H' Q (d.take k ++ [b + 1]) := by
        rw [← e2]
        exact q
      walk_at "g"
      refine w_iteD (fun c2 => absurd c2 (by omega)) (fun _ => ?_)
      walk_at "g"
      rw [ei]
      have hs0 : HT.sIx (d.map V.int).length 0 none = 0 := HT.sIx_none _ _
      have hs : HT.sIx (d.map V.int).length (d.map V.int).length (some (k : Int)) = k := by rw [HT.sIx_nat, List.length_map, Nat.min_eq_left (by omega)]
      refine ⟨a, _, rfl, hS, fun z => ?_, fun _ p hp => ?_⟩
      · rw [hs, List.length_map] at z
        omega
      have ec : cutV (d.map V.int) none (some (k : Int)) = (d.take k).map V.int := by
        unfold cutV
        rw [hs0, hs, List.drop_zero, ← List.map_take]
        rfl
      rw [ec]
      walk_at "g"
      refine ⟨p, _, rfl, .inl (SqT.of upd_same), ?_⟩
      walk_at "g"
      rw [ei]
      refine w_ixT (sqT_same hS (same_new hp _)) hg ?_
      walk_at "g"
      refine ⟨?_, fun r hr' => ?_⟩
      · simp only [List.length_append, List.length_map, List.length_take, List.length_cons, List.length_nil]
        exact Nat.le_trans (by omega : _ ≤ 900001) (by decide)
      · refine q2 r _ ((same_new hp _).trans (same_new hr' _)) ((same_new hp _).free hr') ?_
        rw [upd_same, List.map_append]
        rfl
end
end K24
end

section
-- part K24E0
set_option Elab.async false
set_option linter.all false
set_option maxRecDepth 100000
set_option maxHeartbeats 800000
open PySem PySem.Spec PyProof.Rows L2 Fw
local macro_rules | `(tactic| walk_at "e1") => `(tactic| first
  | ((with_reducible refine' w_var ?hv ?_); (case hv => rfl))
  | with_reducible refine w_c ?_
  | with_reducible refine w_op ?_
  | with_reducible refine w_un ?_
  | with_reducible refine w_cons ?_
  | with_reducible refine w_nil ?_
  | with_reducible refine w_cl ?_
  | with_reducible refine w_cb ?_
  | with_reducible refine w_gname ?_
  | with_reducible refine w_gsub ?_
  | with_reducible refine w_test ?_
  | with_reducible refine w_B ?_
  | with_reducible refine w_bl ?_
  | with_reducible refine w_and ?_
  | with_reducible refine w_or ?_
  | with_reducible refine w_not ?_
  | with_reducible refine w_if ?_
  | with_reducible refine w_I0 ?_
  | with_reducible refine Gk.w_rU ?_
  | with_reducible refine Dq.w_orV ?_
  | with_reducible refine Dq.w_js ?_
  | with_reducible refine Dq.w_js0 ?_
  | with_reducible refine Dq.w_fm ?_
  | with_reducible refine Dq.w_andV ?_
  | with_reducible refine Gk.w_iEnum ?_
  | with_reducible refine Dq.w_dget ?_
  | with_reducible refine Dq.w_dpop1 ?_
  | with_reducible refine Dq.w_ddel ?_
  | with_reducible refine Dq.w_din ?_
  | with_reducible refine Dq.w_dnotin ?_
  | with_reducible refine Dq.w_dget2 ?_
  | with_reducible refine Dq.w_dnew ?_
  | with_reducible refine Dq.w_fldaug ?_
  | with_reducible refine Dq.w_aSub ?_
  | with_reducible refine Dq.w_aAdd ?_
  | with_reducible refine Dq.w_mkd ?_
  | with_reducible refine Dq.w_notN0 ?_
  | with_reducible refine Dq.w_isN0 ?_
  | with_reducible refine Ftw.w_isTI ?_
  | with_reducible refine Ftw.w_isTS ?_
  | with_reducible refine Ftw.w_isTR ?_
  | with_reducible refine Ftw.w_isTN ?_
  | with_reducible refine Ftw.w_isTtt ?_
  | with_reducible refine Ftw.w_isTft ?_
  | with_reducible refine Ftw.w_isTtf ?_
  | with_reducible refine Ftw.w_isNS ?_
  | with_reducible refine Ftw.w_isNB ?_
  | ((with_reducible refine' Ftw.w_isiRS ?hq ?_); (case hq => assumption))
  | ((with_reducible refine' Ftw.w_isiRT ?hq ?_); (case hq => assumption))
  | ((with_reducible refine' Ftw.w_isiRI ?hq ?_); (case hq => assumption))
  | with_reducible refine Ftw.w_isiIT ?_
  | with_reducible refine Ftw.w_isiII ?_
  | with_reducible refine Dq.w_notNR ?_
  | with_reducible refine Dq.w_isNR ?_
  | with_reducible refine Dq.w_notNI ?_
  | with_reducible refine Dq.w_isNI ?_
  | with_reducible refine L2.w_neOs ?_
  | with_reducible refine w_ipI ?_
  | with_reducible refine w_eqS ?_
  | with_reducible refine w_neS ?_
  | with_reducible refine w_eqI ?_
  | with_reducible refine w_neI ?_
  | with_reducible refine w_eqB ?_
  | with_reducible refine w_neB ?_
  | ((with_reducible refine w_eq ?hs ?_); (case hs => rfl))
  | ((with_reducible refine w_ne ?hs ?_); (case hs => rfl))
  | with_reducible refine w_fld ?_
  | with_reducible refine w_bm ?_
  | with_reducible refine w_bm0 ?_
  | with_reducible refine w_sl ?_
  | with_reducible refine w_part ?_
  | with_reducible refine w_partI ?_
  | with_reducible refine w_nopart ?_
  | ((with_reducible refine' w_ixL ?hh ?ha ?_); (case hh => first | assumption | exact upd_same); (case ha => rfl))
  | ((with_reducible refine' w_setLu ?ha ?_); (case ha => rfl))
  | ((with_reducible refine' w_setL ?hh ?ha ?_); (case hh => first | assumption | exact upd_same); (case ha => rfl))
  | with_reducible refine w_iteT ?_
  | with_reducible refine w_iteF ?_
  | with_reducible refine w_lst ?_
  | with_reducible refine w_tup ?_
  | ((with_reducible refine w_new ?hz ?_); (case hz => rfl))
  | with_reducible refine w_lc ?_
  | with_reducible refine w_iL ?_
  | with_reducible refine w_iT ?_
  | with_reducible refine w_iR1 ?_
  | with_reducible refine w_iR2 ?_
  | with_reducible refine w_yes ?_
  | with_reducible refine w_iStr ?_
  | with_reducible exact tyS
  | with_reducible refine And.intro tyS ?_
  | ((with_reducible refine w_find3 ?_); (first | rw [find3_one] | rw [starts3] | skip))
  | ((with_reducible refine w_2s ?_); (try rw [find_one]))
  | ((with_reducible refine w_inS ?_); rw [S_list])
  | ((with_reducible refine w_lenS ?hz ?_); (case hz => first | assumption | omega | decide); rw [SX.S_len])
  | ((with_reducible refine w_addS ?hz ?_); (case hz => first | assumption | omega | decide); rw [vS_cat])
  | with_reducible refine w_mk ?_
  | with_reducible refine w_me ?_
  | with_reducible refine w_sfld ?_
  | ((with_reducible refine' w_gtup ?hh ?hn ?_); (case hh => first | assumption | exact upd_same); (case hn => rfl))
  | with_reducible refine w_gcons ?_
  | with_reducible refine w_gnil ?_
  | with_reducible refine w_repl ?_
  | with_reducible refine w_star ?_
  | with_reducible refine w_revL ?_
  | with_reducible refine w_isiS ?_
  | with_reducible refine w_isiI ?_
  | with_reducible refine w_isiN ?_
  | with_reducible refine w_chain ?_
  | with_reducible refine w_iEnumT ?_
  | with_reducible refine w_iZip3 ?_
  | with_reducible refine w_iZip ?_
  | with_reducible refine w_lenR3 ?_
  | with_reducible refine w_x1i ?_
  | with_reducible refine w_x1b ?_
  | with_reducible refine w_x1s ?_
  | with_reducible refine w_int1i ?_
  | with_reducible refine w_int1b ?_
  | ((with_reducible refine w_mod ?hc ?_); (case hc => omega))
  | ((with_reducible refine w_fdivW ?hc ?hd ?_); (case hc => omega); (case hd => omega))
  | ((with_reducible refine w_mul ?hc ?_); (case hc => first | exact Or.inr ⟨by decide, by decide⟩ | exact Or.inl ⟨by decide, by decide⟩))
  | ((with_reducible refine w_pow ?hc ?_); (case hc => exact ⟨by decide, by decide, by decide⟩)))
local macro_rules | `(tactic| walk_at "s1") => `(tactic| first
  | with_reducible refine w_seq ?_
  | with_reducible refine w_asg ?_
  | with_reducible refine w_ret ?_
  | with_reducible refine w_par ?_
  | with_reducible refine w_drop ?_
  | with_reducible refine w_next ?_
  | with_reducible refine w_ifs ?_
  | ((with_reducible refine' w_aug ?hv ?_); (case hv => rfl))
  | with_reducible refine w_for ?_
  | walk_at "e1")
local macro_rules | `(tactic| walk_at "e") => `(tactic| repeat walk_at "e1")
local macro_rules | `(tactic| walk_at "g") => `(tactic| repeat walk_at "s1")
local macro_rules | `(tactic| walk_at "n1") => `(tactic| ((fail_if_success (with_reducible refine w_if ?_)); walk_at "s1"))
local macro_rules | `(tactic| walk_at "n") => `(tactic| repeat walk_at "n1")

namespace K24
open Dc Gk M24 M5
/-! trees as data -/
def dV : RV → PyData
  | .non => .none
  | .txt l => .str (S l)
  | .num n => .int n
def dLf : Lf → PyData
  | .lit .non => .tuple [.str (Str.ofString "null")]
  | .lit (.txt l) => .tuple [.str (Str.ofString "text"), .str (S l)]
  | .lit (.num n) => .tuple [.str (Str.ofString "int"), .int n]
  | .fld p => .tuple [.str (Str.ofString "field"), .int 0, .int (p : Int)]
def dCd : Cd → PyData
  | .isn p => .tuple [.str (Str.ofString "isnull"), dLf (.fld p), .bool true]
  | .cmp g a b => .tuple [.str (Str.ofString "cmp"), .str (sgS g), dLf a, dLf b]
def dTm : M24.Tm → PyData
  | .cd c => dCd c
  | .and T c => .tuple [.str (Str.ofString "and"), dTm T, dCd c]
def okLf : Lf → Prop
  | .lit v => okv v
  | .fld _ => True
def okC : Cd → Prop
  | .isn _ => True
  | .cmp _ a b => okLf a ∧ okLf b
def okT : M24.Tm → Prop
  | .cd c => okC c
  | .and T c => okT T ∧ okC c
theorem okT_iff : ∀ {T : M24.Tm}, okT T ↔ ∀ c ∈ conj T, okC c
  | .cd c => by simp [okT, conj]
  | .and T c => by
    rw [okT, okT_iff, conj]
    simp only [List.mem_append, List.mem_singleton]
    exact ⟨fun h d hd => hd.elim (h.1 d) fun e => e ▸ h.2, fun h => ⟨fun d hd => h d (.inl hd), h c (.inr rfl)⟩⟩
theorem al_small {c : Nat} (h : c ∈ alphabet) : c < 128 := by
  have h2 : alphabet.all (fun c => decide (c < 128)) = true := by decide +kernel
  exact of_decide_eq_true (List.all_eq_true.mp h2 c h)
theorem S_ok {l : List Nat} (h : ∀ c ∈ l, c ∈ alphabet) : PyData.strOk (S l) = true := by
  unfold PyData.strOk
  rw [Array.all_eq_true_iff_forall_mem]
  intro c hc
  have : c ∈ (S l).cps.toList := hc.val
  rw [S_list] at this
  exact decide_eq_true (by have := al_small (h c this); omega)
theorem Fine.bl (b : Bool) : Fine 0 (.bool b) := ⟨rfl, by simp [PyData.depth], by simp [PyData.eqv]⟩
theorem Fine.non : Fine 0 .none := ⟨rfl, by simp [PyData.depth], by simp [PyData.eqv]⟩
theorem fine1 {k : Nat} {a : PyData} (ha : Fine k a) : Fine (k + 1) (.tuple [a]) := Fine.tup fun d hd => by rw [List.mem_singleton.mp hd]; exact ha
theorem fine2 {k : Nat} {a b : PyData} (ha : Fine k a) (hb : Fine k b) : Fine (k + 1) (.tuple [a, b]) := Fine.tup fun d hd => by
  rcases List.mem_cons.mp hd with rfl | hd
  · exact ha
  · rw [List.mem_singleton.mp hd]; exact hb
theorem fine3 {k : Nat} {a b c : PyData} (ha : Fine k a) (hb : Fine k b) (hc : Fine k c) : Fine (k + 1) (.tuple [a, b, c]) := Fine.tup fun d hd => by
  rcases List.mem_cons.mp hd with rfl | hd
  · exact ha
  rcases List.mem_cons.mp hd with rfl | hd
  · exact hb
  · rw [List.mem_singleton.mp hd]; exact hc
theorem fine4 {k : Nat} {a b c e : PyData} (ha : Fine k a) (hb : Fine k b) (hc : Fine k c) (he : Fine k e) : Fine (k + 1) (.tuple [a, b, c, e]) := Fine.tup fun d hd => by
  rcases List.mem_cons.mp hd with rfl | hd
  · exact ha
  rcases List.mem_cons.mp hd with rfl | hd
  · exact hb
  rcases List.mem_cons.mp hd with rfl | hd
  · exact hc
  · rw [List.mem_singleton.mp hd]; exact he
theorem sg_fine (g : Sg) : Fine 0 (.str (sgS g)) := Fine.str (by cases g <;> decide +kernel)
theorem lf_fine {l : Lf} (h : okLf l) : Fine 1 (dLf l) := by
  cases l with
  | fld p => exact fine3 (.str (by decide +kernel)) (.int _) (.int _)
  | lit v =>
    cases v with
    | non => exact fine1 (.str (by decide +kernel))
    | txt l => exact fine2 (.str (by decide +kernel)) (.str (S_ok h.1))
    | num n => exact fine2 (.str (by decide +kernel)) (.int _)
theorem cd_fine {c : Cd} (h : okC c) : Fine 2 (dCd c) := by
  cases c with
  | isn p => exact fine3 ((Fine.str (by decide +kernel)).le (by decide)) (lf_fine trivial) ((Fine.bl _).le (by decide))
  | cmp g a b => exact fine4 ((Fine.str (by decide +kernel)).le (by decide)) ((sg_fine g).le (by decide)) (lf_fine h.1) (lf_fine h.2)
theorem tm_fine : ∀ {T : M24.Tm}, okT T → Fine (dep T + 2) (dTm T)
  | .cd c, h => cd_fine h
  | .and T c, h => by
    show Fine (dep T + 1 + 2) _
    exact fine3 ((Fine.str (by decide +kernel)).le (Nat.zero_le _)) (tm_fine h.1) ((cd_fine h.2).le (by omega))
section
variable {K : PySem.W.Frag} {H : Hp} {Q : VK}
theorem lf_dp {a : Addr} {l : Lf} (h : LfO H a l) : Dp K H (.ref a) (dLf l) := by
  cases l with
  | fld p => exact .tup (SqT.of h) (.cons (.str _) (.cons (.int _) (.cons (.int _) .nil)))
  | lit v =>
    cases v with
    | non => exact .tup (SqT.of h) (.cons (.str _) .nil)
    | txt l => exact .tup (SqT.of h) (.cons (.str _) (.cons (.str _) .nil))
    | num n => exact .tup (SqT.of h) (.cons (.str _) (.cons (.int _) .nil))
theorem cd_dp {a : Addr} {c : Cd} (h : CdO H a c) : Dp K H (.ref a) (dCd c) := by
  cases c with
  | isn p =>
    obtain ⟨x, h1, h2⟩ := h
    exact .tup (SqT.of h2) (.cons (.str _) (.cons (lf_dp h1) (.cons (.bl _) .nil)))
  | cmp g l r =>
    obtain ⟨x, y, h1, h2, h3⟩ := h
    exact .tup (SqT.of h3) (.cons (.str _) (.cons (.str _) (.cons (lf_dp h1) (.cons (lf_dp h2) .nil))))
theorem tm_dp : ∀ {a : Addr} {T : M24.Tm}, TmO H a T → Dp K H (.ref a) (dTm T)
  | _, .cd c, h => cd_dp h
  | _, .and T c, h => by
    obtain ⟨x, y, h1, h2, h3⟩ := h
    exact .tup (SqT.of h3) (.cons (.str _) (.cons (tm_dp h1) (.cons (cd_dp h2) .nil)))
theorem v_dp (v : RV) : Dp K H (vV v) (dV v) := by cases v <;> constructor
theorem v_fine {v : RV} (h : okv v) : Fine 0 (dV v) := by
  cases v with
  | non => exact K24.Fine.non
  | txt l => exact .str (S_ok h.1)
  | num n => exact .int _
theorem S_beq (a b : List Nat) : (S a == S b) = decide (a = b) := by rw [show S = SX.S from rfl, SX.S_beq_eq]
theorem v_eqv (u v : RV) : PyData.eqv (dV u) (dV v) = decide (u = v) := by
  cases u <;> cases v <;> simp [dV, PyData.eqv, S_beq, Bool.beq_eq_decide_eq]
theorem w_eqDV {u v : RV} (hu : okv u) (hv : okv v) (q : Q (.bl (decide (u = v))) H) : rEqD K (vV u) (vV v) H Q :=
  ⟨_, _, v_dp u, v_dp v, (v_fine hu).shaped (by decide), (v_fine hv).shaped (by decide), by rw [v_eqv]; exact q⟩
theorem dp_nil : ∀ {xs : List V} {ds : List PyData}, DpAll K H xs ds → (xs = [] ↔ ds = [])
  | _, _, .nil => ⟨fun _ => rfl, fun _ => rfl⟩
  | _, _, .cons _ _ => ⟨fun h => (by cases h), fun h => (by cases h)⟩
theorem eqv_nil (ds : List PyData) : PyData.eqvAll ds [] = decide (ds = []) := by cases ds <;> simp [PyData.eqvAll]
theorem w_neNil {a b : Addr} {xs : List V} {ds : List PyData} {k : Nat} (ha : SqL K H a xs) (hd : DpAll K H xs ds) (f : ∀ d ∈ ds, Fine k d) (hk : k < 64) (hb : H b = some (.lst [])) (q : Q (.bl (!decide (xs = []))) H) : rNeD K (.ref a) (.ref b) H Q :=
  ⟨_, _, .lst ha hd, .lst (SqL.of hb) .nil, (Fine.lst f).shaped hk, by rfl, by
    show Q (.bl (!PyData.eqvAll ds [])) H
    rw [eqv_nil, show decide (ds = []) = decide (xs = []) from decide_eq_decide.mpr (dp_nil hd).symm]
    exact q⟩
theorem w_eqNilT {a b : Addr} {xs : List V} {ds : List PyData} {k : Nat} (ha : SqT K H a xs) (hd : DpAll K H xs ds) (f : ∀ d ∈ ds, Fine k d) (hk : k < 64) (hb : SqT K H b []) (q : Q (.bl (decide (xs = []))) H) : rEqD K (.ref a) (.ref b) H Q :=
  ⟨_, _, .tup ha hd, .tup hb .nil, (Fine.tup f).shaped hk, by rfl, by
    show Q (.bl (PyData.eqvAll ds [])) H
    rw [eqv_nil, show decide (ds = []) = decide (xs = []) from decide_eq_decide.mpr (dp_nil hd).symm]
    exact q⟩
theorem lf_eqv_ne (p : Nat) (v : RV) : PyData.eqv (dLf (.fld p)) (dLf (.lit v)) = false ∧ PyData.eqv (dLf (.lit v)) (dLf (.fld p)) = false := by
  cases v <;> exact ⟨rfl, rfl⟩
/-- the trees in a list, each of them so deep -/
theorem tms_dp : ∀ {ws : List (Addr × M24.Tm)}, (∀ p ∈ ws, TmO H p.1 p.2) → DpAll K H (ws.map fun p => V.ref p.1) (ws.map fun p => dTm p.2)
  | [], _ => .nil
  | p :: r, h => .cons (tm_dp (h p List.mem_cons_self)) (tms_dp fun q hq => h q (List.mem_cons_of_mem _ hq))
theorem cds_dp : ∀ {ws : List (Addr × Cd)}, (∀ p ∈ ws, CdO H p.1 p.2) → DpAll K H (ws.map fun p => V.ref p.1) (ws.map fun p => dCd p.2)
  | [], _ => .nil
  | p :: r, h => .cons (cd_dp (h p List.mem_cons_self)) (cds_dp fun q hq => h q (List.mem_cons_of_mem _ hq))
theorem lits_dp : ∀ {ws : List (Addr × RV)}, (∀ p ∈ ws, LfO H p.1 (.lit p.2)) → DpAll K H (ws.map fun p => V.ref p.1) (ws.map fun p => dLf (.lit p.2))
  | [], _ => .nil
  | p :: r, h => .cons (lf_dp (h p List.mem_cons_self)) (lits_dp fun q hq => h q (List.mem_cons_of_mem _ hq))
end
/-! tags -/
def tagS : Lf → String
  | .lit .non => "null"
  | .lit (.txt _) => "text"
  | .lit (.num _) => "int"
  | .fld _ => "field"
theorem lf_head (l : Lf) : ∃ rest, lfX l = .str (Str.ofString (tagS l)) :: rest ∧ rest.length ≤ 2 := by
  cases l with
  | fld p => exact ⟨_, rfl, by simp⟩
  | lit v => cases v <;> exact ⟨_, rfl, by simp⟩
theorem tag_in (l : Lf) : tagS l ∈ ["null", "int", "text", "field"] := by
  cases l with
  | fld p => simp [tagS]
  | lit v => cases v <;> simp [tagS]
theorem tag_ne (l : Lf) {z : String} (h : ∀ y ∈ ["null", "int", "text", "field"], Str.ofString y ≠ Str.ofString z) : Str.ofString (tagS l) ≠ Str.ofString z := h _ (tag_in l)
theorem str_of {a b : Str} (h : a.1.toList = b.1.toList) : a = b := congrArg Str.mk (Array.ext' h)
theorem tag_lit (v : RV) : Str.ofString (tagS (.lit v)) ≠ Str.ofString "field" := by
  cases v with
  | non => show Str.ofString "null" ≠ _; decide +kernel
  | txt l => show Str.ofString "text" ≠ _; decide +kernel
  | num n => show Str.ofString "int" ≠ _; decide +kernel
def isF : Lf → Bool
  | .fld _ => true
  | .lit _ => false
theorem head0 {x : V} {r : List V} : atI (x :: r) (0 : Int) = some x := show atI _ ((0 : Nat) : Int) = _ from atI_nat rfl
end K24
end

section
-- part K24E
set_option Elab.async false
set_option linter.all false
set_option maxRecDepth 100000
set_option maxHeartbeats 800000
open PySem PySem.Spec PyProof.Rows L2 Fw
local macro_rules | `(tactic| walk_at "e1") => `(tactic| first
  | ((with_reducible refine' w_var ?hv ?_); (case hv => rfl))
  | ((with_reducible refine' K24.w_ixA ?hh ?ha ?_); (case hh => first | assumption | exact upd_same); (case ha => rfl))
  | ((with_reducible refine' K24.w_eqLF ?hl ?_); (case hl => decide +kernel))
  | ((with_reducible refine' K24.w_eqLT ?hl ?_); (case hl => rfl))
  | ((with_reducible refine' K24.w_neLF ?hl ?_); (case hl => decide +kernel))
  | ((with_reducible refine' K24.w_neLT ?hl ?_); (case hl => rfl))
  | with_reducible refine Fw.w_notV ?_
  | with_reducible refine F24.w_iZipM ?_
  | with_reducible refine F24.w_iZipA ?_
  | with_reducible refine Fge.w_cld ?_
  | with_reducible refine w_c ?_
  | with_reducible refine w_op ?_
  | with_reducible refine w_un ?_
  | with_reducible refine w_cons ?_
  | with_reducible refine w_nil ?_
  | with_reducible refine w_cl ?_
  | with_reducible refine w_cb ?_
  | with_reducible refine w_gname ?_
  | with_reducible refine w_gsub ?_
  | with_reducible refine w_test ?_
  | with_reducible refine w_B ?_
  | with_reducible refine w_bl ?_
  | with_reducible refine w_and ?_
  | with_reducible refine w_or ?_
  | with_reducible refine w_not ?_
  | with_reducible refine w_if ?_
  | with_reducible refine w_I0 ?_
  | with_reducible refine Gk.w_rU ?_
  | with_reducible refine Dq.w_orV ?_
  | with_reducible refine Dq.w_js ?_
  | with_reducible refine Dq.w_js0 ?_
  | with_reducible refine Dq.w_fm ?_
  | with_reducible refine Dq.w_andV ?_
  | with_reducible refine Gk.w_iEnum ?_
  | with_reducible refine Dq.w_dget ?_
  | with_reducible refine Dq.w_dpop1 ?_
  | with_reducible refine Dq.w_ddel ?_
  | with_reducible refine Dq.w_din ?_
  | with_reducible refine Dq.w_dnotin ?_
  | with_reducible refine Dq.w_dget2 ?_
  | with_reducible refine Dq.w_dnew ?_
  | with_reducible refine Dq.w_fldaug ?_
  | with_reducible refine Dq.w_aSub ?_
  | with_reducible refine Dq.w_aAdd ?_
  | with_reducible refine Dq.w_mkd ?_
  | with_reducible refine Dq.w_notN0 ?_
  | with_reducible refine Dq.w_isN0 ?_
  | with_reducible refine Ftw.w_isTI ?_
  | with_reducible refine Ftw.w_isTS ?_
  | with_reducible refine Ftw.w_isTR ?_
  | with_reducible refine Ftw.w_isTN ?_
  | with_reducible refine Ftw.w_isTtt ?_
  | with_reducible refine Ftw.w_isTft ?_
  | with_reducible refine Ftw.w_isTtf ?_
  | with_reducible refine Ftw.w_isNS ?_
  | with_reducible refine Ftw.w_isNB ?_
  | ((with_reducible refine' Ftw.w_isiRS ?hq ?_); (case hq => assumption))
  | ((with_reducible refine' Ftw.w_isiRT ?hq ?_); (case hq => assumption))
  | ((with_reducible refine' Ftw.w_isiRI ?hq ?_); (case hq => assumption))
  | with_reducible refine Ftw.w_isiIT ?_
  | with_reducible refine Ftw.w_isiII ?_
  | with_reducible refine Dq.w_notNR ?_
  | with_reducible refine Dq.w_isNR ?_
  | with_reducible refine Dq.w_notNI ?_
  | with_reducible refine Dq.w_isNI ?_
  | with_reducible refine L2.w_neOs ?_
  | with_reducible refine w_ipI ?_
  | with_reducible refine w_eqS ?_
  | with_reducible refine w_neS ?_
  | with_reducible refine w_eqI ?_
  | with_reducible refine w_neI ?_
  | with_reducible refine w_eqB ?_
  | with_reducible refine w_neB ?_
  | ((with_reducible refine w_eq ?hs ?_); (case hs => rfl))
  | ((with_reducible refine w_ne ?hs ?_); (case hs => rfl))
  | with_reducible refine w_fld ?_
  | with_reducible refine w_bm ?_
  | with_reducible refine w_bm0 ?_
  | with_reducible refine w_sl ?_
  | with_reducible refine w_part ?_
  | with_reducible refine w_partI ?_
  | with_reducible refine w_nopart ?_
  | ((with_reducible refine' w_ixL ?hh ?ha ?_); (case hh => first | assumption | exact upd_same); (case ha => rfl))
  | ((with_reducible refine' w_setLu ?ha ?_); (case ha => rfl))
  | ((with_reducible refine' w_setL ?hh ?ha ?_); (case hh => first | assumption | exact upd_same); (case ha => rfl))
  | with_reducible refine w_iteT ?_
  | with_reducible refine w_iteF ?_
  | with_reducible refine w_lst ?_
  | with_reducible refine w_tup ?_
  | ((with_reducible refine w_new ?hz ?_); (case hz => rfl))
  | with_reducible refine w_lc ?_
  | with_reducible refine w_iL ?_
  | with_reducible refine w_iT ?_
  | with_reducible refine w_iR1 ?_
  | with_reducible refine w_iR2 ?_
  | with_reducible refine w_yes ?_
  | with_reducible refine w_iStr ?_
  | with_reducible exact tyS
  | with_reducible refine And.intro tyS ?_
  | ((with_reducible refine w_find3 ?_); (first | rw [find3_one] | rw [starts3] | skip))
  | ((with_reducible refine w_2s ?_); (try rw [find_one]))
  | ((with_reducible refine w_inS ?_); rw [S_list])
  | ((with_reducible refine w_lenS ?hz ?_); (case hz => first | assumption | omega | decide); rw [SX.S_len])
  | ((with_reducible refine w_addS ?hz ?_); (case hz => first | assumption | omega | decide); rw [vS_cat])
  | with_reducible refine w_mk ?_
  | with_reducible refine w_me ?_
  | with_reducible refine w_sfld ?_
  | ((with_reducible refine' w_gtup ?hh ?hn ?_); (case hh => first | assumption | exact upd_same); (case hn => rfl))
  | with_reducible refine w_gcons ?_
  | with_reducible refine w_gnil ?_
  | with_reducible refine w_repl ?_
  | with_reducible refine w_star ?_
  | with_reducible refine w_revL ?_
  | with_reducible refine w_isiS ?_
  | with_reducible refine w_isiI ?_
  | with_reducible refine w_isiN ?_
  | with_reducible refine w_chain ?_
  | with_reducible refine w_iEnumT ?_
  | with_reducible refine w_iZip3 ?_
  | with_reducible refine w_iZip ?_
  | with_reducible refine w_lenR3 ?_
  | with_reducible refine w_x1i ?_
  | with_reducible refine w_x1b ?_
  | with_reducible refine w_x1s ?_
  | with_reducible refine w_int1i ?_
  | with_reducible refine w_int1b ?_
  | ((with_reducible refine w_mod ?hc ?_); (case hc => omega))
  | ((with_reducible refine w_fdivW ?hc ?hd ?_); (case hc => omega); (case hd => omega))
  | ((with_reducible refine w_mul ?hc ?_); (case hc => first | exact Or.inr ⟨by decide, by decide⟩ | exact Or.inl ⟨by decide, by decide⟩))
  | ((with_reducible refine w_pow ?hc ?_); (case hc => exact ⟨by decide, by decide, by decide⟩)))
local macro_rules | `(tactic| walk_at "f1") => `(tactic| first
  | ((with_reducible refine' K24.g_rows ?hW ?hK ?hs ?hx ?_); (case hW => assumption); (case hK => rfl); (case hs => rfl); (case hx => first | assumption | exact upd_same))
  | ((with_reducible refine' K24.g_kept ?hW ?hK ?hs ?hx ?_); (case hW => assumption); (case hK => rfl); (case hs => rfl); (case hx => first | assumption | exact upd_same))
  | ((with_reducible refine' K24.g_origin ?hW ?hK ?hs ?hx ?_); (case hW => assumption); (case hK => rfl); (case hs => rfl); (case hx => first | assumption | exact upd_same))
  | ((with_reducible refine' K24.g_equals ?hW ?hK ?hs ?hx ?_); (case hW => assumption); (case hK => rfl); (case hs => rfl); (case hx => first | assumption | exact upd_same))
  | ((with_reducible refine' K24.g_low ?hW ?hK ?hs ?hx ?_); (case hW => assumption); (case hK => rfl); (case hs => rfl); (case hx => first | assumption | exact upd_same))
  | ((with_reducible refine' K24.g_high ?hW ?hK ?hs ?hx ?_); (case hW => assumption); (case hK => rfl); (case hs => rfl); (case hx => first | assumption | exact upd_same))
  | walk_at "e1")
local macro_rules | `(tactic| walk_at "s1") => `(tactic| first
  | with_reducible refine w_seq ?_
  | with_reducible refine w_asg ?_
  | with_reducible refine w_ret ?_
  | with_reducible refine w_par ?_
  | with_reducible refine w_drop ?_
  | with_reducible refine w_next ?_
  | with_reducible refine w_ifs ?_
  | ((with_reducible refine' w_aug ?hv ?_); (case hv => rfl))
  | with_reducible refine w_for ?_
  | walk_at "f1")
local macro_rules | `(tactic| walk_at "e") => `(tactic| repeat walk_at "e1")
local macro_rules | `(tactic| walk_at "g") => `(tactic| repeat walk_at "s1")
local macro_rules | `(tactic| walk_at "n1") => `(tactic| ((fail_if_success (with_reducible refine w_if ?_)); walk_at "s1"))
local macro_rules | `(tactic| walk_at "n") => `(tactic| repeat walk_at "n1")
local macro_rules | `(tactic| walk_at "p1") => `(tactic| ((fail_if_success (with_reducible refine w_ifs ?_)); walk_at "s1"))
local macro_rules | `(tactic| walk_at "p") => `(tactic| repeat walk_at "p1")
local macro_rules | `(tactic| walk_at "q1") => `(tactic| ((fail_if_success (with_reducible refine w_seq ?_)); walk_at "s1"))
local macro_rules | `(tactic| walk_at "q") => `(tactic| repeat walk_at "q1")

namespace K24
open Dc Gk M24 M5
def spPP (K : PySem.W.Frag) : Sp := fun vs H Q _ => ∃ (t : Addr) (l : Lf), vs = [.ref t] ∧ LfO H t l ∧ ∀ a, SqT K H a [.int 1, .int 1] → Q (.ref a) H
def spNoT : Sp := fun vs H Q _ => ∃ (t : Addr) (l : Lf), vs = [.ref t] ∧ LfO H t l ∧ ∀ p, H p = none → Q (.ref p) (upd H p (.tup []))
/-- what reads finds in a leaf -/
def RdO (H : Hp) (ys : List Addr) : Lf → Prop
  | .lit _ => ys = []
  | .fld q => ∃ y, ys = [y] ∧ H y = some (.tup [.int 0, .int (q : Int)])
theorem RdO.tk {H H' : Hp} {ys : List Addr} {l : Lf} (h : RdO H ys l) (t : Tk H H') : RdO H' ys l := by
  cases l with
  | lit v => exact h
  | fld q => obtain ⟨y, h1, h2⟩ := h; exact ⟨y, h1, tup_tk h2 t⟩
def spReads : Sp := fun vs H Q _ => ∃ (t : Addr) (l : Lf), vs = [.ref t] ∧ LfO H t l ∧ okLf l ∧ ∀ p ys H', Same H H' → H' p = some (.lst (ys.map V.ref)) → RdO H' ys l → Q (.ref p) H'
def fldsOf : Lf → List Int
  | .lit _ => []
  | .fld q => [(q : Int)]
def spFI (K : PySem.W.Frag) : Sp := fun vs H Q _ => ∃ (t : Addr) (l : Lf), vs = [.ref t, .int 0] ∧ LfO H t l ∧ okLf l ∧ ∀ p H', Same H H' → SqT K H' p ((fldsOf l).map V.int) → Q (.ref p) H'
def spOwn : Sp := fun vs H Q _ => ∃ (t : Addr) (l : Lf), vs = [.ref t] ∧ LfO H t l ∧ Q (.bl (isF l)) H
/-- one side -/
def SdO (H : Hp) (x a : Addr) (s : Side) : Prop := H x = some (.tup [.int (s.1 : Int), .str (sgS s.2.1), .ref a]) ∧ LfO H a (.lit s.2.2)
theorem SdO.tk {H H' : Hp} {x a : Addr} {s : Side} (h : SdO H x a s) (t : Tk H H') : SdO H' x a s := ⟨tup_tk h.1 t, h.2.tk t⟩
def spSided : Sp := fun vs H Q _ => ∃ (t : Addr) (c : Cd), vs = [.ref t] ∧ CdO H t c ∧ okC c ∧ match sideOf c with
  | none => ∀ H', Same H H' → Q .non H'
  | some s => ∀ x a H', Same H H' → SdO H' x a s → Q (.ref x) H'
def spBC : Sp := fun vs H Q _ => ∃ (t : Addr) (T : M24.Tm), vs = [.ref t] ∧ TmO H t T ∧ okT T ∧ dep T ≤ 8 ∧ ∀ p (as : List (Addr × Cd)) H', Same H H' → H' p = some (.tup (as.map fun q => .ref q.1)) → (∀ q ∈ as, CdO H' q.1 q.2) → as.map (·.2) = conj T → Q (.ref p) H'
def sz : M24.Tm → Nat
  | .cd _ => 1
  | .and T _ => sz T + 2
def szs (ws : List (Addr × M24.Tm)) : Nat := (ws.map fun p => sz p.2).sum
theorem sz_dep : ∀ T : M24.Tm, sz T = 2 * dep T + 1
  | .cd _ => rfl
  | .and T _ => by rw [sz, sz_dep T, dep]; omega
theorem sz_pos (T : M24.Tm) : 0 < sz T := by rw [sz_dep]; omega
theorem szs_len : ∀ ws : List (Addr × M24.Tm), ws.length ≤ szs ws
  | [] => Nat.le_refl _
  | p :: r => by
    have h1 := szs_len r
    have h2 := sz_pos p.2
    show r.length + 1 ≤ sz p.2 + szs r
    omega
theorem szs_app (a b : List (Addr × M24.Tm)) : szs (a ++ b) = szs a + szs b := by simp [szs]
def todo (ws : List (Addr × M24.Tm)) : List Cd := ws.reverse.flatMap fun p => conj p.2
theorem todo_snoc (ws : List (Addr × M24.Tm)) (p : Addr × M24.Tm) : todo (ws ++ [p]) = conj p.2 ++ todo ws := by simp [todo]
theorem dep_conj : ∀ T : M24.Tm, (conj T).length = dep T + 1
  | .cd _ => rfl
  | .and T _ => by rw [conj, List.length_append, dep_conj T, dep]; rfl
section
variable {P : Program} {w : World} {K : PySem.W.Frag} {mg : Str → Option Value} {base : Heap} {ad : Ad}
theorem ok_part_places (W : Ws K mg ad) (D : Wk K w mg ad) : Cl P w K mg base 1 "part_places" (spPP K) := by
  refine cl_mk W.d_part_places sc_part_places (fun _ _ _ _ _ _ us hl => match us, hl with | [_], _ => rfl) (fun vs H Q E h => ?_) (fun f cdv A outer s H vs Q E hr h => ?_)
  · obtain ⟨t, l, rfl, _⟩ := h; rfl
  obtain ⟨t, l, rfl, ht, q⟩ := h
  obtain ⟨es, n, KD_PART_PLACES⟩ := D.P
  obtain ⟨rest, e, _⟩ := lf_head l
  have h1 : H t = some (.tup (.str (Str.ofString (tagS l)) :: rest)) := by rw [← e]; exact ht
  obtain ⟨g, h2, h3⟩ := D.p_all _ (tag_in l)
  refine ⟨_, (pss_cons (ps_if (pt_cmpR (op_notIn_kd KD_PART_PLACES) (pe_ix ix_tup (pv 0) pe_int (fun _ _ => rfl)) (C8.pe_gc rfl W.c_PART_PLACES) (by with_unfolding_all rfl))
    (pss_one ps_never)
    pss_nil)
    (pss_one (ps_ret (pe_ix ix_kdict (C8.pe_gc rfl W.c_PART_PLACES) (pe_ix ix_tup (pv 0) pe_int (fun _ _ => rfl)) (fun _ _ => rfl))))), ?_⟩
  walk_at "g"
  refine w_ixA h1 head0 ?_
  walk_at "g"
  refine ⟨_, _, rfl, rfl, h2, false, rfl, ?_⟩
  walk_at "g"
  refine w_ixA h1 head0 ?_
  walk_at "g"
  refine w_kdIx (v := .ref g) KD_PART_PLACES h2 rfl ?_
  exact q g (h3 H)
theorem ok_own_plans (W : Ws K mg ad) (D : Wk K w mg ad) : Cl P w K mg base 1 "own_plans" spNoT := by
  refine cl_mk W.d_own_plans sc_own_plans (fun _ _ _ _ _ _ us hl => match us, hl with | [_], _ => rfl) (fun vs H Q E h => ?_) (fun f cdv A outer s H vs Q E hr h => ?_)
  · obtain ⟨t, l, rfl, _⟩ := h; rfl
  obtain ⟨t, l, rfl, ht, q⟩ := h
  obtain ⟨es, n, KD_QUERY_PLACES⟩ := D.Q
  obtain ⟨rest, e, _⟩ := lf_head l
  have h1 : H t = some (.tup (.str (Str.ofString (tagS l)) :: rest)) := by rw [← e]; exact ht
  have h2 := D.q_all _ (tag_in l)
  refine ⟨_, (pss_cons (ps_if (pt_cmpR (op_in_kd KD_QUERY_PLACES) (pe_ix ix_tup (pv 0) pe_int (fun _ _ => rfl)) (C8.pe_gc rfl W.c_QUERY_PLACES) (by with_unfolding_all rfl))
    pss_never
    pss_nil)
    (pss_one (ps_ret (pe_tup pa_nil)))), ?_⟩
  walk_at "g"
  refine w_ixA h1 head0 ?_
  walk_at "g"
  refine ⟨_, _, rfl, rfl, h2, false, rfl, ?_⟩
  walk_at "g"
  exact fun p hp => q p hp
theorem ok_bound_parts (W : Ws K mg ad) (c_part_places : Cl P w K mg base 1 "part_places" (spPP K)) : Cl P w K mg base 2 "bound_parts" spNoT := by
  refine cl_mk W.d_bound_parts sc_bound_parts (fun _ _ _ _ _ _ us hl => match us, hl with | [_], _ => rfl) (fun vs H Q E h => ?_) (fun f cdv A outer s H vs Q E hr h => ?_)
  · obtain ⟨t, l, rfl, _⟩ := h; rfl
  obtain ⟨t, l, rfl, ht, q⟩ := h
  obtain ⟨rest, e, _⟩ := lf_head l
  have h1 : H t = some (.tup (.str (Str.ofString (tagS l)) :: rest)) := by rw [← e]; exact ht
  refine ⟨_, (pss_cons (ps_if (pt_cmpR op_eq (pe_ix ix_tup (pv 0) pe_int (fun _ _ => rfl)) pe_str (nomark _))
    pss_never
    pss_nil)
    (pss_cons (ps_if (pt_cmpR op_eq (pe_ix ix_tup (pv 0) pe_int (fun _ _ => rfl)) pe_str (nomark _))
    pss_never
    pss_nil)
    (pss_cons (ps_asg (pe_cl c_part_places hr (by first | decide | omega) rfl passL (pa_cons (pv 0) pa_nil)) (pg_tup rfl (pgs_cons (pg_name (i := 4) sc_bound_parts.nd rfl (Or.inl rfl)) (pgs_cons (pg_name (i := 5) sc_bound_parts.nd rfl (Or.inl rfl)) pgs_nil))))
    (pss_one (ps_ret (pe_slice sl_tupA (pv 0) (po_some (pv 4)) (po_some (pv 5)))))))), ?_⟩
  walk_at "g"
  refine w_ixA h1 head0 ?_
  walk_at "g"
  refine w_iteD (fun c => absurd (str_of c) (tag_ne l (by decide +kernel))) (fun _ => ?_)
  walk_at "g"
  refine w_ixA h1 head0 ?_
  walk_at "g"
  refine w_iteD (fun c => absurd (str_of c) (tag_ne l (by decide +kernel))) (fun _ => ?_)
  walk_at "g"
  refine ⟨t, l, rfl, ht, fun a ha => ?_⟩
  walk_at "g"
  refine Gk.w_gtupS ha rfl ?_
  walk_at "g"
  refine ⟨t, _, rfl, SqT.of h1, fun z => ?_, fun _ p hp => ?_⟩
  · have z1 := z.1
    rw [show HT.sIx (V.str (Str.ofString (tagS l)) :: rest).length 0 (some (1 : Int)) = min 1 (V.str (Str.ofString (tagS l)) :: rest).length from HT.sIx_nat _ 0 1, List.length_cons] at z1
    omega
  · have ec : cutV (V.str (Str.ofString (tagS l)) :: rest) (some (1 : Int)) (some (1 : Int)) = [] := by
      have := cut_mid (V.str (Str.ofString (tagS l)) :: rest) (i := 1) (j := 1)
      rw [show (1 - 1 : Nat) = 0 from rfl, List.take_zero] at this
      exact this
    rw [ec]
    exact q p hp
theorem ok_is_own (W : Ws K mg ad) : Cl P w K mg base 1 "is_own_field" spOwn := by
  refine cl_mk W.d_is_own_field sc_is_own_field (fun _ _ _ _ _ _ us hl => match us, hl with | [_], _ => rfl) (fun vs H Q E h => ?_) (fun f cdv A outer s H vs Q E hr h => ?_)
  · obtain ⟨t, l, rfl, _⟩ := h; rfl
  obtain ⟨t, l, rfl, ht, q⟩ := h
  refine ⟨_, (pss_one (ps_ret (pe_and (pe_cmpR op_eq (pe_ix ix_tup (pv 0) pe_int (fun _ _ => rfl)) pe_str (nomark _)) (pe_one (pe_cmpR op_eq (pe_ix ix_tup (pv 0) pe_int (fun _ _ => rfl)) pe_int (nomark _)))))), ?_⟩
  cases l with
  | fld p =>
    have ht2 : H t = some (.tup [.str (Str.ofString "field"), .int 0, .int (p : Int)]) := ht
    clear ht
    walk_at "g"
    exact q
  | lit v =>
    obtain ⟨rest, e, _⟩ := lf_head (.lit v)
    have h1 : H t = some (.tup (.str (Str.ofString (tagS (.lit v))) :: rest)) := by rw [← e]; exact ht
    walk_at "g"
    refine w_ixA h1 head0 ?_
    walk_at "g"
    refine w_iteD (fun c => absurd (str_of c) (tag_lit v)) (fun _ => ?_)
    walk_at "g"
    exact q
theorem ok_reads (W : Ws K mg ad) (c_bound_parts : Cl P w K mg base 2 "bound_parts" spNoT) (c_own_plans : Cl P w K mg base 1 "own_plans" spNoT) : Cl P w K mg base 3 "reads" spReads := by
  refine cl_mk W.d_reads sc_reads (fun _ _ _ _ _ _ us hl => match us, hl with | [_], _ => rfl) (fun vs H Q E h => ?_) (fun f cdv A outer s H vs Q E hr h => ?_)
  · obtain ⟨t, l, rfl, _⟩ := h; rfl
  obtain ⟨t, l, rfl, ht, okl, q⟩ := h
  refine ⟨_, (pss_cons (ps_set (i := 1) sc_reads.nd rfl (Or.inl rfl) (pe_lst pa_nil))
    (pss_cons (ps_set (i := 2) sc_reads.nd rfl (Or.inl rfl) (pe_lst (pa_cons (pe_tup (pa_cons (pv 0) (pa_cons pe_int pa_nil))) pa_nil)))
    (pss_cons (ps_while (passes_of rfl) (pt_cmpR (op_neD (hu64 hr)) (pv 2) (pe_lst pa_nil) (nomark _))
    (pss_cons (ps_asg (pe_bm0 PySem.F.plainAttrs_list PySem.F.slot_list_pop PySem.F.type_list_pop mt_pop (pv 2)) (pg_tup rfl (pgs_cons (pg_name (i := 3) sc_reads.nd rfl (Or.inl rfl)) (pgs_cons (pg_name (i := 4) sc_reads.nd rfl (by first | exact Or.inl rfl | exact Or.inr rfl)) pgs_nil))))
    (pss_cons (ps_if (PW.pt (pw_and (pt_cmpR op_eq (pe_ix ix_tup (pv 3) pe_int (fun _ _ => rfl)) pe_str (nomark _)) (pw_and1 (pt_cmpR op_ge (pe_ix ix_tup (pv 3) pe_int (fun _ _ => rfl)) (pv 4) (nomark _)))))
    (pss_one (ps_expr (pe_bm PySem.F.plainAttrs_list PySem.F.slot_list_append PySem.F.type_list_append mt_append (pv 1) (pa_cons (pe_tup (pa_cons (pe_op op_sub (pe_ix ix_tup (pv 3) pe_int (fun _ _ => rfl)) (pv 4)) (pa_cons (pe_ix ix_tup (pv 3) pe_int (fun _ _ => rfl)) pa_nil))) pa_nil))))
    pss_nil)
    (pss_cons (ps_expr (pe_bm PySem.F.plainAttrs_list PySem.F.slot_list_extend PySem.F.type_list_extend mt_extend (pv 2) (pa_cons (pe_lc (own := [("one", 5)]) rfl sc_reads.nd (pi_tup (pe_cl c_bound_parts hr (by first | decide | omega) rfl passL (pa_cons (pv 3) pa_nil))) (blkOk_by (own := [("one", 5)]) (N := ["tree", "found", "waiting", "part", "deep", "one", "plan", "operation"]) (sc := defScope s_reads) (by decide +kernel)) (fun _ _ _ _ _ => (pg_name (i := 5) sc_reads.nd rfl (by first | exact Or.inl rfl | exact Or.inr rfl))) (fun _ _ _ _ _ => pts_nil) (fun _ _ _ _ _ => (pe_tup (pa_cons (pv 5) (pa_cons (pv 4) pa_nil))))) pa_nil)))
    (pss_one (ps_for (passes_of rfl) rfl (pi_tup (pe_cl c_own_plans hr (by first | decide | omega) rfl passL (pa_cons (pv 3) pa_nil))) (pg_name (i := 6) sc_reads.nd rfl (Or.inl rfl))
    pss_never))))))
    (pss_one (ps_ret (pv 1)))))), ?_⟩
  walk_at "g"
  intro L hL
  have s1 := same_new hL (.lst [])
  have eL : (upd H L (.lst [])) L = some (.lst []) := upd_same
  generalize upd H L (.lst []) = H1 at s1 eL
  walk_at "g"
  intro T0 hT0
  have s2 := same_new hT0 (.tup [.ref t, .int 0])
  have e0 : (upd H1 T0 (.tup [.ref t, .int 0])) T0 = some (.tup [.ref t, .int 0]) := upd_same
  generalize upd H1 T0 (.tup [.ref t, .int 0]) = H2 at s2 e0
  walk_at "g"
  intro Wt hW
  have s3 := same_new hW (.lst [.ref T0])
  have eW : (upd H2 Wt (.lst [.ref T0])) Wt = some (.lst [.ref T0]) := upd_same
  have hW1 : H Wt = none := (s1.trans s2).free hW
  have neLW : L ≠ Wt := fun z => by rw [z] at eL; rw [s2 _ _ eL] at hW; cases hW
  generalize upd H2 Wt (.lst [.ref T0]) = H3 at s3 eW
  have e0' := s3 _ _ e0
  have eL' := (s2.trans s3) _ _ eL
  have s13 := (s1.trans s2).trans s3
  walk_at "g"
  refine w_while (fun m σ H' => Same H H' ∧ (∃ v3 v4 v5 v6 v7 : Option V, σ = [some (.ref t), some (.ref L), some (.ref Wt), v3, v4, v5, v6, v7]) ∧ ((m = 1 ∧ H' L = some (.lst []) ∧ H' Wt = some (.lst [.ref T0]) ∧ H' T0 = some (.tup [.ref t, .int 0])) ∨ (m = 0 ∧ H' Wt = some (.lst []) ∧ ∃ ys, H' L = some (.lst (ys.map V.ref)) ∧ RdO H' ys l))) 1
    ⟨s13, ⟨none, none, none, none, none, rfl⟩, .inl ⟨rfl, eL', eW, e0'⟩⟩ ?_
  rintro m σ H' ⟨sH, ⟨v3, v4, v5, v6, v7, rfl⟩, h⟩
  rcases h with ⟨rfl, hL', hW', hT'⟩ | ⟨rfl, hW', ys, hL', hys⟩
  · walk_at "g"
    intro Em hE
    have s4 := same_new hE (.lst [])
    have ht4 := (LfO.tk ht (Tk.of sH)).tk (Tk.of s4)
    refine w_neNil (ds := [.tuple [dLf l, .int 0]]) (k := 2) (SqL.of (s4 _ _ hW')) (.cons (.tup (SqT.of (s4 _ _ hT')) (.cons (lf_dp ht4) (.cons (.int 0) .nil))) .nil) (fun d hd => by rw [List.mem_singleton.mp hd]; exact fine2 (lf_fine okl) ((Fine.int 0).le (by decide))) (by decide) upd_same ?_
    have hL4 := s4 _ _ hL'
    have hW4 := s4 _ _ hW'
    have hT4 := s4 _ _ hT'
    have sH4 := sH.trans s4
    generalize upd H' Em (.lst []) = H4 at s4 ht4 hL4 hW4 hT4 sH4
    rw [decide_eq_false (fun z => by cases z)]
    walk_at "g"
    refine ⟨fun σ' H5 => Same H H5 ∧ (∃ v3 v4 v5 v6 v7 : Option V, σ' = [some (.ref t), some (.ref L), some (.ref Wt), v3, v4, v5, v6, v7]) ∧ H5 Wt = some (.lst []) ∧ ∃ ys, H5 L = some (.lst (ys.map V.ref)) ∧ RdO H5 ys l, fun σ' H5 ⟨a1, a2, a3, a4⟩ => ⟨0, by decide, a1, a2, .inr ⟨rfl, a3, a4⟩⟩, ?_⟩
    walk_at "p"
    refine ⟨tyL hW4, ?_⟩
    refine ⟨Wt, _, _, rfl, rfl, hW4, rfl, ?_⟩
    have hT5 := tup_wr (o := .lst []) hT4 hW4
    have ht5 : LfO (upd H4 Wt (.lst [])) t l := LfO.tk ht4 (Tk.wr hW4)
    have hL5 : (upd H4 Wt (.lst [])) L = some (.lst []) := by rw [upd_ne neLW]; exact hL4
    have hW5 : (upd H4 Wt (.lst [])) Wt = some (.lst []) := upd_same
    have sH5 : Same H (upd H4 Wt (.lst [])) := same_upd sH4 hW1
    show gTup _ _ _ _ _ (upd H4 Wt (.lst [])) _
    generalize upd H4 Wt (.lst []) = H5 at hT5 ht5 hL5 hW5 sH5
    walk_at "p"
    refine Gk.w_ifRest (fun σ' H6 => σ' = [some (.ref t), some (.ref L), some (.ref Wt), some (.ref t), some (.int 0), v5, v6, v7] ∧ Same H H6 ∧ H6 Wt = some (.lst []) ∧ LfO H6 t l ∧ ∃ ys, H6 L = some (.lst (ys.map V.ref)) ∧ RdO H6 ys l) (fun N hN => ?_) ?_
    · cases l with
      | lit v =>
        obtain ⟨rest, e, _⟩ := lf_head (.lit v)
        have h1 : H5 t = some (.tup (.str (Str.ofString (tagS (.lit v))) :: rest)) := by rw [← e]; exact ht5
        walk_at "g"
        refine w_ixA h1 head0 ?_
        walk_at "g"
        refine w_iteD (fun c => absurd (str_of c) (tag_lit v)) (fun _ => ?_)
        walk_at "g"
        exact hN _ _ ⟨rfl, sH5, hW5, ht5, [], hL5, rfl⟩
      | fld p =>
        have h1 : H5 t = some (.tup [.str (Str.ofString "field"), .int 0, .int (p : Int)]) := ht5
        walk_at "g"
        refine w_iteD (fun _ => ?_) (fun c => absurd (by decide) c)
        walk_at "g"
        refine ⟨tyL hL5, ?_⟩
        walk_at "g"
        intro y hy
        have s6 := same_new hy (.tup [.int (0 - 0), .int (p : Int)])
        have ey : (upd H5 y (.tup [.int (0 - 0), .int (p : Int)])) y = some (.tup [.int 0, .int (p : Int)]) := upd_same
        have hL6 := s6 _ _ hL5
        have hW6 := s6 _ _ hW5
        have ht6 := ht5.tk (Tk.of s6)
        have sH6 := sH5.trans s6
        generalize upd H5 y (.tup [.int (0 - 0), .int (p : Int)]) = H6 at s6 ey hL6 hW6 ht6 sH6
        walk_at "g"
        refine w_app hL6 (by decide) ?_
        walk_at "g"
        exact hN _ _ ⟨rfl, same_upd sH6 hL, by rw [upd_ne neLW.symm]; exact hW6, ht6.tk (Tk.wr hL6), [y], upd_same, y, rfl, tup_wr ey hL6⟩
    · rintro σ' H6 ⟨rfl, sH6, hW6, ht6, ys, hL6, hys⟩
      walk_at "g"
      refine ⟨tyL hW6, ?_⟩
      walk_at "g"
      refine ⟨t, l, rfl, ht6, fun p hp => ?_⟩
      have s7 := same_new hp (.tup [])
      have ep : (upd H6 p (.tup [])) p = some (.tup []) := upd_same
      have hL7 := s7 _ _ hL6
      have hW7 := s7 _ _ hW6
      have ht7 := ht6.tk (Tk.of s7)
      have hys7 := hys.tk (Tk.of s7)
      have sH7 := sH6.trans s7
      generalize upd H6 p (.tup []) = H7 at s7 ep hL7 hW7 ht7 hys7 sH7
      refine w_lcTn (SqT.of ep) fun D hD => ⟨fun i H8 => H8 = upd H7 D (.lst []), rfl, fun i H8 _ h => by rw [h]; exact SqT.of (same_new hD _ _ _ ep), ?_, ?_⟩
      · rintro i x H8 hi _
        cases hi
      · rintro H8 rfl
        have s8 := same_new hD (.lst [])
        have hW8 := s8 _ _ hW7
        have hL8 := s8 _ _ hL7
        have ht8 := ht7.tk (Tk.of s8)
        have hys8 := hys7.tk (Tk.of s8)
        have sH8 := sH7.trans s8
        have eD : (upd H7 D (.lst [])) D = some (.lst []) := upd_same
        generalize upd H7 D (.lst []) = H8 at s8 hW8 hL8 ht8 hys8 sH8 eD
        walk_at "g"
        refine ⟨Wt, D, _, _, rfl, rfl, hW8, eD, by decide, ?_⟩
        have hW9 : (upd H8 Wt (.lst ([] ++ []))) Wt = some (.lst []) := upd_same
        have hL9 : (upd H8 Wt (.lst ([] ++ []))) L = some (.lst (ys.map V.ref)) := by rw [upd_ne neLW]; exact hL8
        have ht9 := ht8.tk (Tk.wr (o := .lst ([] ++ [])) hW8)
        have hys9 := hys8.tk (Tk.wr (o := .lst ([] ++ [])) hW8)
        have sH9 : Same H (upd H8 Wt (.lst ([] ++ []))) := same_upd sH8 hW1
        generalize upd H8 Wt (.lst ([] ++ [])) = H9 at hW9 hL9 ht9 hys9 sH9
        walk_at "g"
        refine ⟨t, l, rfl, ht9, fun p hp => ?_⟩
        have s10 := same_new hp (.tup [])
        refine w_forT (SqT.of upd_same) (fun i σ' H10 => H10 = upd H9 p (.tup []) ∧ σ' = [some (.ref t), some (.ref L), some (.ref Wt), some (.ref t), some (.int 0), v5, v6, v7]) ⟨rfl, rfl⟩ (fun i σ' H10 _ h => by rw [h.1]; exact SqT.of upd_same) ?_ ?_
        · intro i x σ' H10 hi
          cases hi
        · rintro σ' H10 ⟨rfl, rfl⟩
          exact ⟨sH9.trans s10, ⟨_, _, _, _, _, rfl⟩, s10 _ _ hW9, ys, s10 _ _ hL9, hys9.tk (Tk.of s10)⟩
  · walk_at "g"
    intro Em hE
    have s4 := same_new hE (.lst [])
    refine w_neNil (ds := []) (k := 0) (SqL.of (s4 _ _ hW')) .nil (fun d hd => by cases hd) (by decide) upd_same ?_
    rw [decide_eq_true rfl, Bool.not_true]
    walk_at "g"
    exact q L ys _ (sH.trans s4) (s4 _ _ hL') (hys.tk (Tk.of s4))
end
end K24
end

section
-- part K24F
set_option Elab.async false
set_option linter.all false
set_option maxRecDepth 100000
set_option maxHeartbeats 800000
open PySem PySem.Spec PyProof.Rows L2 Fw
local macro_rules | `(tactic| walk_at "e1") => `(tactic| first
  | ((with_reducible refine' w_var ?hv ?_); (case hv => rfl))
  | ((with_reducible refine' K24.w_ixA ?hh ?ha ?_); (case hh => first | assumption | exact upd_same); (case ha => rfl))
  | ((with_reducible refine' K24.w_eqLF ?hl ?_); (case hl => decide +kernel))
  | ((with_reducible refine' K24.w_eqLT ?hl ?_); (case hl => rfl))
  | ((with_reducible refine' K24.w_neLF ?hl ?_); (case hl => decide +kernel))
  | ((with_reducible refine' K24.w_neLT ?hl ?_); (case hl => rfl))
  | with_reducible refine Fw.w_notV ?_
  | with_reducible refine F24.w_iZipM ?_
  | with_reducible refine F24.w_iZipA ?_
  | with_reducible refine Fge.w_cld ?_
  | with_reducible refine w_c ?_
  | with_reducible refine w_op ?_
  | with_reducible refine w_un ?_
  | with_reducible refine w_cons ?_
  | with_reducible refine w_nil ?_
  | with_reducible refine w_cl ?_
  | with_reducible refine w_cb ?_
  | with_reducible refine w_gname ?_
  | with_reducible refine w_gsub ?_
  | with_reducible refine w_test ?_
  | with_reducible refine w_B ?_
  | with_reducible refine w_bl ?_
  | with_reducible refine w_and ?_
  | with_reducible refine w_or ?_
  | with_reducible refine w_not ?_
  | with_reducible refine w_if ?_
  | with_reducible refine w_I0 ?_
  | with_reducible refine Gk.w_rU ?_
  | with_reducible refine Dq.w_orV ?_
  | with_reducible refine Dq.w_js ?_
  | with_reducible refine Dq.w_js0 ?_
  | with_reducible refine Dq.w_fm ?_
  | with_reducible refine Dq.w_andV ?_
  | with_reducible refine Gk.w_iEnum ?_
  | with_reducible refine Dq.w_dget ?_
  | with_reducible refine Dq.w_dpop1 ?_
  | with_reducible refine Dq.w_ddel ?_
  | with_reducible refine Dq.w_din ?_
  | with_reducible refine Dq.w_dnotin ?_
  | with_reducible refine Dq.w_dget2 ?_
  | with_reducible refine Dq.w_dnew ?_
  | with_reducible refine Dq.w_fldaug ?_
  | with_reducible refine Dq.w_aSub ?_
  | with_reducible refine Dq.w_aAdd ?_
  | with_reducible refine Dq.w_mkd ?_
  | with_reducible refine Dq.w_notN0 ?_
  | with_reducible refine Dq.w_isN0 ?_
  | with_reducible refine Ftw.w_isTI ?_
  | with_reducible refine Ftw.w_isTS ?_
  | with_reducible refine Ftw.w_isTR ?_
  | with_reducible refine Ftw.w_isTN ?_
  | with_reducible refine Ftw.w_isTtt ?_
  | with_reducible refine Ftw.w_isTft ?_
  | with_reducible refine Ftw.w_isTtf ?_
  | with_reducible refine Ftw.w_isNS ?_
  | with_reducible refine Ftw.w_isNB ?_
  | ((with_reducible refine' Ftw.w_isiRS ?hq ?_); (case hq => assumption))
  | ((with_reducible refine' Ftw.w_isiRT ?hq ?_); (case hq => assumption))
  | ((with_reducible refine' Ftw.w_isiRI ?hq ?_); (case hq => assumption))
  | with_reducible refine Ftw.w_isiIT ?_
  | with_reducible refine Ftw.w_isiII ?_
  | with_reducible refine Dq.w_notNR ?_
  | with_reducible refine Dq.w_isNR ?_
  | with_reducible refine Dq.w_notNI ?_
  | with_reducible refine Dq.w_isNI ?_
  | with_reducible refine L2.w_neOs ?_
  | with_reducible refine w_ipI ?_
  | with_reducible refine w_eqS ?_
  | with_reducible refine w_neS ?_
  | with_reducible refine w_eqI ?_
  | with_reducible refine w_neI ?_
  | with_reducible refine w_eqB ?_
  | with_reducible refine w_neB ?_
  | ((with_reducible refine w_eq ?hs ?_); (case hs => rfl))
  | ((with_reducible refine w_ne ?hs ?_); (case hs => rfl))
  | with_reducible refine w_fld ?_
  | with_reducible refine w_bm ?_
  | with_reducible refine w_bm0 ?_
  | with_reducible refine w_sl ?_
  | with_reducible refine w_part ?_
  | with_reducible refine w_partI ?_
  | with_reducible refine w_nopart ?_
  | ((with_reducible refine' w_ixL ?hh ?ha ?_); (case hh => first | assumption | exact upd_same); (case ha => rfl))
  | ((with_reducible refine' w_setLu ?ha ?_); (case ha => rfl))
  | ((with_reducible refine' w_setL ?hh ?ha ?_); (case hh => first | assumption | exact upd_same); (case ha => rfl))
  | with_reducible refine w_iteT ?_
  | with_reducible refine w_iteF ?_
  | with_reducible refine w_lst ?_
  | with_reducible refine w_tup ?_
  | ((with_reducible refine w_new ?hz ?_); (case hz => rfl))
  | with_reducible refine w_lc ?_
  | with_reducible refine w_iL ?_
  | with_reducible refine w_iT ?_
  | with_reducible refine w_iR1 ?_
  | with_reducible refine w_iR2 ?_
  | with_reducible refine w_yes ?_
  | with_reducible refine w_iStr ?_
  | with_reducible exact tyS
  | with_reducible refine And.intro tyS ?_
  | ((with_reducible refine w_find3 ?_); (first | rw [find3_one] | rw [starts3] | skip))
  | ((with_reducible refine w_2s ?_); (try rw [find_one]))
  | ((with_reducible refine w_inS ?_); rw [S_list])
  | ((with_reducible refine w_lenS ?hz ?_); (case hz => first | assumption | omega | decide); rw [SX.S_len])
  | ((with_reducible refine w_addS ?hz ?_); (case hz => first | assumption | omega | decide); rw [vS_cat])
  | with_reducible refine w_mk ?_
  | with_reducible refine w_me ?_
  | with_reducible refine w_sfld ?_
  | ((with_reducible refine' w_gtup ?hh ?hn ?_); (case hh => first | assumption | exact upd_same); (case hn => rfl))
  | with_reducible refine w_gcons ?_
  | with_reducible refine w_gnil ?_
  | with_reducible refine w_repl ?_
  | with_reducible refine w_star ?_
  | with_reducible refine w_revL ?_
  | with_reducible refine w_isiS ?_
  | with_reducible refine w_isiI ?_
  | with_reducible refine w_isiN ?_
  | with_reducible refine w_chain ?_
  | with_reducible refine w_iEnumT ?_
  | with_reducible refine w_iZip3 ?_
  | with_reducible refine w_iZip ?_
  | with_reducible refine w_lenR3 ?_
  | with_reducible refine w_x1i ?_
  | with_reducible refine w_x1b ?_
  | with_reducible refine w_x1s ?_
  | with_reducible refine w_int1i ?_
  | with_reducible refine w_int1b ?_
  | ((with_reducible refine w_mod ?hc ?_); (case hc => omega))
  | ((with_reducible refine w_fdivW ?hc ?hd ?_); (case hc => omega); (case hd => omega))
  | ((with_reducible refine w_mul ?hc ?_); (case hc => first | exact Or.inr ⟨by decide, by decide⟩ | exact Or.inl ⟨by decide, by decide⟩))
  | ((with_reducible refine w_pow ?hc ?_); (case hc => exact ⟨by decide, by decide, by decide⟩)))
local macro_rules | `(tactic| walk_at "f1") => `(tactic| first
  | ((with_reducible refine' K24.g_rows ?hW ?hK ?hs ?hx ?_); (case hW => assumption); (case hK => rfl); (case hs => rfl); (case hx => first | assumption | exact upd_same))
  | ((with_reducible refine' K24.g_kept ?hW ?hK ?hs ?hx ?_); (case hW => assumption); (case hK => rfl); (case hs => rfl); (case hx => first | assumption | exact upd_same))
  | ((with_reducible refine' K24.g_origin ?hW ?hK ?hs ?hx ?_); (case hW => assumption); (case hK => rfl); (case hs => rfl); (case hx => first | assumption | exact upd_same))
  | ((with_reducible refine' K24.g_equals ?hW ?hK ?hs ?hx ?_); (case hW => assumption); (case hK => rfl); (case hs => rfl); (case hx => first | assumption | exact upd_same))
  | ((with_reducible refine' K24.g_low ?hW ?hK ?hs ?hx ?_); (case hW => assumption); (case hK => rfl); (case hs => rfl); (case hx => first | assumption | exact upd_same))
  | ((with_reducible refine' K24.g_high ?hW ?hK ?hs ?hx ?_); (case hW => assumption); (case hK => rfl); (case hs => rfl); (case hx => first | assumption | exact upd_same))
  | walk_at "e1")
local macro_rules | `(tactic| walk_at "s1") => `(tactic| first
  | with_reducible refine w_seq ?_
  | with_reducible refine w_asg ?_
  | with_reducible refine w_ret ?_
  | with_reducible refine w_par ?_
  | with_reducible refine w_drop ?_
  | with_reducible refine w_next ?_
  | with_reducible refine w_ifs ?_
  | ((with_reducible refine' w_aug ?hv ?_); (case hv => rfl))
  | with_reducible refine w_for ?_
  | walk_at "f1")
local macro_rules | `(tactic| walk_at "e") => `(tactic| repeat walk_at "e1")
local macro_rules | `(tactic| walk_at "g") => `(tactic| repeat walk_at "s1")
local macro_rules | `(tactic| walk_at "n1") => `(tactic| ((fail_if_success (with_reducible refine w_if ?_)); walk_at "s1"))
local macro_rules | `(tactic| walk_at "n") => `(tactic| repeat walk_at "n1")
local macro_rules | `(tactic| walk_at "p1") => `(tactic| ((fail_if_success (with_reducible refine w_ifs ?_)); walk_at "s1"))
local macro_rules | `(tactic| walk_at "p") => `(tactic| repeat walk_at "p1")
local macro_rules | `(tactic| walk_at "q1") => `(tactic| ((fail_if_success (with_reducible refine w_seq ?_)); walk_at "s1"))
local macro_rules | `(tactic| walk_at "q") => `(tactic| repeat walk_at "q1")

namespace K24
open Dc Gk M24 M5
section
variable {P : Program} {w : World} {K : PySem.W.Frag} {mg : Str → Option Value} {base : Heap} {ad : Ad}
theorem ok_fields_in (W : Ws K mg ad) (c_reads : Cl P w K mg base 3 "reads" spReads) : Fge.Cld P w K mg base 4 "fields_in" (spFI K) [.int 0] := by
  refine Fge.cld_mk (dvs := [.int 0]) 1 0 W.d_fields_in sc_fields_in (by simp) rfl (fun _ _ _ _ _ _ _ us its h1 h2 => match us, its, h1, h2 with | [_], [_], _, _ => ⟨_, rfl, rfl⟩) (fun vs H Q E h => ?_) (fun f cdv A outer s H vs Q E hr h => ?_)
  · obtain ⟨t, l, rfl, _⟩ := h; rfl
  obtain ⟨t, l, rfl, ht, okl, q⟩ := h
  refine ⟨_, (pss_one (ps_ret (pe_callTy call_tuple_of rfl W.n_tuple (by decide +kernel) (pa_cons (pe_callB (cr_sortedSet rfl) rfl W.n_sorted (by decide +kernel) (pa_cons (Fsc.pe_SC (own := [("level", 2), ("place", 3)]) (fun _ _ _ _ _ => Fsc.colI w rfl) rfl sc_fields_in.nd (pi_list (pe_cl c_reads hr (by first | decide | omega) rfl passL (pa_cons (pv 0) pa_nil))) (blkOk_by (own := [("level", 2), ("place", 3)]) (N := ["tree", "up", "level", "place"]) (sc := defScope s_fields_in) (by decide +kernel)) (fun _ _ _ _ _ => (Fw.pg_tupK K 2 rfl rfl (pgs_cons (pg_name (i := 2) sc_fields_in.nd rfl (by first | exact Or.inl rfl | exact Or.inr rfl)) (pgs_cons (pg_name (i := 3) sc_fields_in.nd rfl (by first | exact Or.inl rfl | exact Or.inr rfl)) pgs_nil)) rfl rfl)) (fun _ _ _ _ _ => (pts_one (pt_cmpR op_eq (pv 2) (pv 1) (nomark _)))) (fun _ _ _ _ _ => (pv 3))) pa_nil)) pa_nil)))), ?_⟩
  walk_at "g"
  refine Fsc.w_SC ?_
  walk_at "g"
  refine ⟨t, l, rfl, ht, okl, fun p ys H1 s1 hp hy => ?_⟩
  cases l with
  | lit v =>
    have hy2 : ys = [] := hy
    subst hy2
    refine Fsc.w_scL (SqL.of hp) (fun D hD => ⟨fun i H2 => H2 = upd H1 D (Fsc.newI w D), rfl, fun i H2 _ h => by rw [h]; exact SqL.of (same_new hD _ _ _ hp), ?_, ?_⟩)
    · intro i x H2 hi
      cases hi
    · rintro H2 rfl
      walk_at "g"
      refine ⟨D, _, _, rfl, upd_same, by decide, fun ns r _ _ hlen hr => ?_⟩
      have hn : ns = [] := List.eq_nil_of_length_eq_zero hlen
      subst hn
      walk_at "g"
      refine ⟨r, _, rfl, .inl ⟨SqL.of upd_same, fun z hz => ?_⟩⟩
      exact q z _ (((s1.trans (same_new hD _)).trans (same_new hr _)).trans (same_new hz _)) (SqT.of upd_same)
  | fld k =>
    obtain ⟨y, rfl, hy⟩ := hy
    refine Fsc.w_scL (SqL.of hp) (fun D hD => ⟨fun i H2 => Same H1 H2 ∧ ((i = 0 ∧ H2 D = some (Fsc.newI w D)) ∨ (i = 1 ∧ ∃ S n, H2 D = some (SetO w D S n) ∧ n = 1 ∧ ∀ j, S j = decide (j = (k : Int)))), ⟨same_new hD _, .inl ⟨rfl, upd_same⟩⟩, fun i H2 _ h => SqL.of (h.1 _ _ hp), ?_, ?_⟩)
    · rintro i x H2 hi ⟨s2, h⟩
      rcases h with ⟨rfl, hD2⟩ | ⟨rfl, _⟩
      · cases hi
        have hy2 := s2 _ _ hy
        walk_at "g"
        refine ⟨rfl, ?_⟩
        walk_at "g"
        refine w_iteD (fun _ => ?_) (fun c => absurd rfl c)
        walk_at "g"
        exact ⟨_, _, _, rfl, hD2, by decide, same_upd s2 hD, .inr ⟨rfl, _, _, upd_same, rfl, fun j => by simp⟩⟩
      · cases hi
    · rintro H2 ⟨s2, ⟨h, _⟩ | ⟨_, S, n, hD2, rfl, hS⟩⟩
      · cases h
      walk_at "g"
      refine ⟨D, S, 1, rfl, hD2, by decide, fun ns r _ hmem hlen hr => ?_⟩
      have hn : ns = [(k : Int)] := by
        match ns, hlen with
        | [x], _ =>
          have := (hmem x).mp List.mem_cons_self
          rw [hS] at this
          rw [of_decide_eq_true this]
      subst hn
      walk_at "g"
      refine ⟨r, _, rfl, .inl ⟨SqL.of upd_same, fun z hz => ?_⟩⟩
      exact q z _ (((s1.trans s2).trans (same_new hr _)).trans (same_new hz _)) (SqT.of upd_same)
theorem ok_bound_conjuncts (W : Ws K mg ad) : Cl P w K mg base 1 "bound_conjuncts" spBC := by
  refine cl_mk W.d_bound_conjuncts sc_bound_conjuncts (fun _ _ _ _ _ _ us hl => match us, hl with | [_], _ => rfl) (fun vs H Q E h => ?_) (fun f cdv A outer s H vs Q E hr h => ?_)
  · obtain ⟨t, T, rfl, _⟩ := h; rfl
  obtain ⟨t, T, rfl, ht, okt, hd, q⟩ := h
  refine ⟨_, (pss_cons (ps_set (i := 1) sc_bound_conjuncts.nd rfl (Or.inl rfl) (pe_lst pa_nil))
    (pss_cons (ps_set (i := 2) sc_bound_conjuncts.nd rfl (Or.inl rfl) (pe_lst (pa_cons (pv 0) pa_nil)))
    (pss_cons (ps_while (passes_of rfl) (pt_cmpR (op_neD (hu64 hr)) (pv 2) (pe_lst pa_nil) (nomark _))
    (pss_cons (ps_set (i := 3) sc_bound_conjuncts.nd rfl (Or.inl rfl) (pe_bm0 PySem.F.plainAttrs_list PySem.F.slot_list_pop PySem.F.type_list_pop mt_pop (pv 2)))
    (pss_one (ps_if (pt_cmpR op_eq (pe_ix ix_tup (pv 3) pe_int (fun _ _ => rfl)) pe_str (nomark _))
    (pss_cons (ps_expr (pe_bm PySem.F.plainAttrs_list PySem.F.slot_list_append PySem.F.type_list_append mt_append (pv 2) (pa_cons (pe_ix ix_tup (pv 3) pe_int (fun _ _ => rfl)) pa_nil)))
    (pss_one (ps_expr (pe_bm PySem.F.plainAttrs_list PySem.F.slot_list_append PySem.F.type_list_append mt_append (pv 2) (pa_cons (pe_ix ix_tup (pv 3) pe_int (fun _ _ => rfl)) pa_nil)))))
    (pss_one (ps_expr (pe_bm PySem.F.plainAttrs_list PySem.F.slot_list_append PySem.F.type_list_append mt_append (pv 1) (pa_cons (pv 3) pa_nil))))))))
    (pss_one (ps_ret (pe_callTy call_tuple_of rfl W.n_tuple (by decide +kernel) (pa_cons (pv 1) pa_nil))))))), ?_⟩
  walk_at "g"
  intro L hL
  have s1 := same_new hL (.lst [])
  have eL : (upd H L (.lst [])) L = some (.lst []) := upd_same
  generalize upd H L (.lst []) = H1 at s1 eL
  walk_at "g"
  intro Wt hW
  have s3 := same_new hW (.lst [.ref t])
  have eW : (upd H1 Wt (.lst [.ref t])) Wt = some (.lst [.ref t]) := upd_same
  have hW1 : H Wt = none := s1.free hW
  have neLW : L ≠ Wt := fun z => by rw [z] at eL; rw [eL] at hW; cases hW
  generalize upd H1 Wt (.lst [.ref t]) = H3 at s3 eW
  have eL' := s3 _ _ eL
  have s13 := s1.trans s3
  have lcj := dep_conj T
  walk_at "g"
  refine w_while (fun m σ H' => ∃ (ws : List (Addr × M24.Tm)) (fs : List (Addr × Cd)) (v3 : Option V), σ = [some (.ref t), some (.ref L), some (.ref Wt), v3] ∧ Same H H' ∧ H' L = some (.lst (fs.map fun p => V.ref p.1)) ∧ H' Wt = some (.lst (ws.map fun p => V.ref p.1)) ∧ (∀ p ∈ ws, TmO H' p.1 p.2 ∧ okT p.2 ∧ dep p.2 ≤ 8) ∧ (∀ p ∈ fs, CdO H' p.1 p.2) ∧ fs.map (·.2) ++ todo ws = conj T ∧ m = szs ws ∧ szs ws ≤ 17) (szs [(t, T)])
    ⟨[(t, T)], [], none, rfl, s13, eL', eW, fun p hp => by rw [List.mem_singleton.mp hp]; exact ⟨TmO.tk (Tk.of s13) ht, okt, hd⟩, fun p hp => (by cases hp), by simp [todo], rfl, by simp [szs, sz_dep]; omega⟩ ?_
  rintro m σ H' ⟨ws, fs, v3, rfl, sH, hL', hW', hws, hfs, he, rfl, hz⟩
  walk_at "g"
  intro Em hE
  have s4 := same_new hE (.lst [])
  have lw := szs_len ws
  have lf : fs.length ≤ 9 := by
    have := congrArg List.length he
    rw [List.length_append, List.length_map, lcj] at this
    omega
  refine w_neNil (k := 10) (SqL.of (s4 _ _ hW')) (tms_dp fun p hp => TmO.tk (Tk.of s4) (hws p hp).1) (fun d hd => ?_) (by decide) upd_same ?_
  · obtain ⟨p, hp, rfl⟩ := List.mem_map.mp hd
    exact (tm_fine (hws p hp).2.1).le (by have := (hws p hp).2.2; omega)
  have hL4 := s4 _ _ hL'
  have hW4 := s4 _ _ hW'
  have hws4 : ∀ p ∈ ws, TmO (upd H' Em (.lst [])) p.1 p.2 ∧ okT p.2 ∧ dep p.2 ≤ 8 := fun p hp => ⟨TmO.tk (Tk.of s4) (hws p hp).1, (hws p hp).2⟩
  have hfs4 : ∀ p ∈ fs, CdO (upd H' Em (.lst [])) p.1 p.2 := fun p hp => (hfs p hp).tk (Tk.of s4)
  have sH4 := sH.trans s4
  generalize upd H' Em (.lst []) = H4 at s4 hL4 hW4 hws4 hfs4 sH4
  clear hws hfs hL' hW' sH s4
  by_cases hn : ws = []
  · subst hn
    rw [decide_eq_true (show (([] : List (Addr × M24.Tm)).map fun p => V.ref p.1) = [] from rfl), Bool.not_true]
    walk_at "g"
    refine ⟨L, _, rfl, .inl ⟨SqL.of hL4, fun p hp => ?_⟩⟩
    have s5 := same_new hp (.tup (fs.map fun p => V.ref p.1))
    exact q p fs _ (sH4.trans s5) upd_same (fun r hr => (hfs4 r hr).tk (Tk.of s5)) (by simpa [todo] using he)
  rw [decide_eq_false (fun z => hn (List.map_eq_nil_iff.mp z)), Bool.not_false]
  obtain ⟨ws', p, rfl⟩ : ∃ ws' p, ws = ws' ++ [p] := ⟨ws.dropLast, ws.getLast hn, (List.dropLast_concat_getLast hn).symm⟩
  walk_at "g"
  refine ⟨fun σ' H5 => ∃ (ws : List (Addr × M24.Tm)) (fs : List (Addr × Cd)) (v3 : Option V), σ' = [some (.ref t), some (.ref L), some (.ref Wt), v3] ∧ Same H H5 ∧ H5 L = some (.lst (fs.map fun p => V.ref p.1)) ∧ H5 Wt = some (.lst (ws.map fun p => V.ref p.1)) ∧ (∀ p ∈ ws, TmO H5 p.1 p.2 ∧ okT p.2 ∧ dep p.2 ≤ 8) ∧ (∀ p ∈ fs, CdO H5 p.1 p.2) ∧ fs.map (·.2) ++ todo ws = conj T ∧ szs ws < szs (ws' ++ [p]), fun σ' H5 ⟨ws2, fs2, v, a1, a2, a3, a4, a5, a6, a7, a8⟩ => ⟨szs ws2, a8, ws2, fs2, v, a1, a2, a3, a4, a5, a6, a7, rfl, by omega⟩, ?_⟩
  walk_at "p"
  refine ⟨tyL hW4, ?_⟩
  refine ⟨Wt, _, .ref p.1, rfl, rfl, hW4, by simp, ?_⟩
  rw [List.map_append, List.map_singleton, List.dropLast_concat]
  rw [todo_snoc] at he
  rw [szs_app] at hz ⊢
  have e1 : szs [p] = sz p.2 := by simp [szs]
  rw [e1] at hz ⊢
  have lw2 : ws'.length ≤ 16 := by
    have h1 := szs_len ws'
    have h2 := sz_pos p.2
    omega
  obtain ⟨tp, okp, hdp⟩ := hws4 p (by simp)
  have hws5 : ∀ r ∈ ws', TmO (upd H4 Wt (.lst (ws'.map fun p => V.ref p.1))) r.1 r.2 ∧ okT r.2 ∧ dep r.2 ≤ 8 := fun r hr => ⟨TmO.tk (Tk.wr hW4) (hws4 r (List.mem_append_left _ hr)).1, (hws4 r (List.mem_append_left _ hr)).2⟩
  have hfs5 : ∀ r ∈ fs, CdO (upd H4 Wt (.lst (ws'.map fun p => V.ref p.1))) r.1 r.2 := fun r hr => (hfs4 r hr).tk (Tk.wr hW4)
  have tp5 := TmO.tk (Tk.wr (o := .lst (ws'.map fun p => V.ref p.1)) hW4) tp
  have hL5 : (upd H4 Wt (.lst (ws'.map fun p => V.ref p.1))) L = some (.lst (fs.map fun p => V.ref p.1)) := by rw [upd_ne neLW]; exact hL4
  have hW5 : (upd H4 Wt (.lst (ws'.map fun p => V.ref p.1))) Wt = some (.lst (ws'.map fun p => V.ref p.1)) := upd_same
  have sH5 : Same H (upd H4 Wt (.lst (ws'.map fun p => V.ref p.1))) := same_upd sH4 hW1
  show gName _ _ _ (upd H4 Wt (.lst (ws'.map fun p => V.ref p.1))) _
  generalize upd H4 Wt (.lst (ws'.map fun p => V.ref p.1)) = H5 at hws5 hfs5 tp5 hL5 hW5 sH5
  clear hws4 hfs4 tp hL4 hW4 sH4
  obtain ⟨a, B⟩ := p
  cases B with
  | cd c =>
    have fin : ∀ σ', σ' = [some (V.ref t), some (V.ref L), some (V.ref Wt), some (V.ref a)] → ∃ (ws2 : List (Addr × M24.Tm)) (fs2 : List (Addr × Cd)) (v3 : Option V), σ' = [some (.ref t), some (.ref L), some (.ref Wt), v3] ∧ Same H (upd H5 L (.lst ((fs.map fun p => V.ref p.1) ++ [V.ref a]))) ∧ (upd H5 L (.lst ((fs.map fun p => V.ref p.1) ++ [V.ref a]))) L = some (.lst (fs2.map fun p => V.ref p.1)) ∧ (upd H5 L (.lst ((fs.map fun p => V.ref p.1) ++ [V.ref a]))) Wt = some (.lst (ws2.map fun p => V.ref p.1)) ∧ (∀ p ∈ ws2, TmO (upd H5 L (.lst ((fs.map fun p => V.ref p.1) ++ [V.ref a]))) p.1 p.2 ∧ okT p.2 ∧ dep p.2 ≤ 8) ∧ (∀ p ∈ fs2, CdO (upd H5 L (.lst ((fs.map fun p => V.ref p.1) ++ [V.ref a]))) p.1 p.2) ∧ fs2.map (·.2) ++ todo ws2 = conj T ∧ szs ws2 < szs ws' + sz (.cd c) := fun σ' h =>
      ⟨ws', fs ++ [(a, c)], _, h, same_upd sH5 hL, by rw [upd_same, List.map_append]; rfl, by rw [upd_ne neLW.symm]; exact hW5, fun r hr => ⟨TmO.tk (Tk.wr hL5) (hws5 r hr).1, (hws5 r hr).2⟩, fun r hr => by
        rcases List.mem_append.mp hr with hr | hr
        · exact (hfs5 r hr).tk (Tk.wr hL5)
        · rw [List.mem_singleton.mp hr]
          exact CdO.tk (show CdO H5 a c from tp5) (Tk.wr hL5), by rw [List.map_append, List.append_assoc]; exact he, by show szs ws' < szs ws' + 1; omega⟩
    cases c with
    | isn k =>
      obtain ⟨x, h1, h2⟩ := tp5
      have h2' : H5 a = some (.tup [.str (Str.ofString "isnull"), .ref x, .bl true]) := h2
      walk_at "g"
      refine ⟨tyL hL5, ?_⟩
      walk_at "g"
      refine w_app hL5 (by rw [List.length_map]; exact Nat.lt_of_le_of_lt lf (by decide)) ?_
      walk_at "g"
      exact fin _ rfl
    | cmp g l r =>
      obtain ⟨x, y, h1, h3, h2⟩ := tp5
      have h2' : H5 a = some (.tup [.str (Str.ofString "cmp"), .str (sgS g), .ref x, .ref y]) := h2
      walk_at "g"
      refine ⟨tyL hL5, ?_⟩
      walk_at "g"
      refine w_app hL5 (by rw [List.length_map]; exact Nat.lt_of_le_of_lt lf (by decide)) ?_
      walk_at "g"
      exact fin _ rfl
  | and B c =>
    obtain ⟨x, y, h1, h3, h2⟩ := tp5
    have h2' : H5 a = some (.tup [.str (Str.ofString "and"), .ref x, .ref y]) := h2
    walk_at "g"
    refine ⟨tyL hW5, ?_⟩
    walk_at "g"
    refine w_app hW5 (by rw [List.length_map]; exact Nat.lt_of_le_of_lt (by omega : _ ≤ 17) (by decide)) ?_
    have h6 := tup_wr (o := .lst ((ws'.map fun p => V.ref p.1) ++ [V.ref y])) h2' hW5
    have hW6 : (upd H5 Wt (.lst ((ws'.map fun p => V.ref p.1) ++ [V.ref y]))) Wt = some (.lst ((ws'.map fun p => V.ref p.1) ++ [V.ref y])) := upd_same
    have k6 : Tk H5 (upd H5 Wt (.lst ((ws'.map fun p => V.ref p.1) ++ [V.ref y]))) := Tk.wr hW5
    have hL6 : (upd H5 Wt (.lst ((ws'.map fun p => V.ref p.1) ++ [V.ref y]))) L = some (.lst (fs.map fun p => V.ref p.1)) := by rw [upd_ne neLW]; exact hL5
    have sH6 : Same H (upd H5 Wt (.lst ((ws'.map fun p => V.ref p.1) ++ [V.ref y]))) := same_upd sH5 hW1
    generalize upd H5 Wt (.lst ((ws'.map fun p => V.ref p.1) ++ [V.ref y])) = H6 at h6 hW6 k6 hL6 sH6
    walk_at "g"
    refine ⟨tyL hW6, ?_⟩
    walk_at "g"
    refine w_app hW6 (by rw [List.length_append, List.length_map]; exact Nat.lt_of_le_of_lt (by simp only [List.length_singleton]; omega : _ ≤ 18) (by decide)) ?_
    walk_at "g"
    have k7 := k6.trans (Tk.wr (o := .lst (((ws'.map fun p => V.ref p.1) ++ [V.ref y]) ++ [V.ref x])) hW6)
    refine ⟨ws' ++ [(y, .cd c), (x, B)], fs, _, rfl, same_upd sH6 hW1, by rw [upd_ne neLW]; exact hL6, by rw [upd_same, List.map_append, List.append_assoc]; rfl, fun r hr => ?_, fun r hr => (hfs5 r hr).tk k7, ?_, ?_⟩
    · rcases List.mem_append.mp hr with hr | hr
      · exact ⟨TmO.tk k7 (hws5 r hr).1, (hws5 r hr).2⟩
      rcases List.mem_cons.mp hr with rfl | hr
      · exact ⟨CdO.tk h3 k7, okp.2, Nat.zero_le _⟩
      · rw [List.mem_singleton.mp hr]
        have hd2 : dep B + 1 ≤ 8 := hdp
        exact ⟨TmO.tk k7 h1, okp.1, by show dep B ≤ 8; omega⟩
    · have e2 : todo (ws' ++ [(y, .cd c), (x, B)]) = conj B ++ ([c] ++ todo ws') := by simp [todo, conj]
      rw [e2, ← List.append_assoc (conj B)]
      exact he
    · rw [szs_app]
      show szs ws' + (1 + (sz B + 0)) < szs ws' + (sz B + 2)
      omega
theorem ok_sided (W : Ws K mg ad) (D : Wk K w mg ad) (c_is_own_field : Cl P w K mg base 1 "is_own_field" spOwn) (cd_fields_in : Fge.Cld P w K mg base 4 "fields_in" (spFI K) [.int 0]) : Cl P w K mg base 5 "sided" spSided := by
  refine cl_mk W.d_sided sc_sided (fun _ _ _ _ _ _ us hl => match us, hl with | [_], _ => rfl) (fun vs H Q E h => ?_) (fun f cdv A outer s H vs Q E hr h => ?_)
  · obtain ⟨t, c, rfl, _⟩ := h; rfl
  obtain ⟨t, c, rfl, ht, okc, q⟩ := h
  obtain ⟨es, n, KD_TURNED⟩ := D.T
  refine ⟨_, (pss_cons (ps_if (PW.pt (pw_or (pt_cmpR op_ne (pe_ix ix_tup (pv 0) pe_int (fun _ _ => rfl)) pe_str (nomark _)) (pw_or1 (pt_cmpR (op_notIn_kd KD_TURNED) (pe_ix ix_tup (pv 0) pe_int (fun _ _ => rfl)) (C8.pe_gc rfl W.c_TURNED) (by with_unfolding_all rfl)))))
    (pss_one (ps_ret pe_non))
    pss_nil)
    (pss_cons (ps_asg (pv 0) (pg_tup rfl (pgs_cons (pg_name (i := 1) sc_sided.nd rfl (Or.inl rfl)) (pgs_cons (pg_name (i := 2) sc_sided.nd rfl (Or.inl rfl)) (pgs_cons (pg_name (i := 3) sc_sided.nd rfl (Or.inl rfl)) (pgs_cons (pg_name (i := 4) sc_sided.nd rfl (Or.inl rfl)) pgs_nil))))))
    (pss_cons (ps_if (PW.pt (pw_and (pt_val (pe_cl c_is_own_field hr (by first | decide | omega) rfl passL (pa_cons (pv 3) pa_nil))) (pw_and1 (pt_cmpR (op_eqD (hu64 hr)) (Fge.pe_cld cd_fields_in hr (by decide) rfl passL (pa_cons (pv 4) pa_nil)) (pe_tup pa_nil) (nomark _)))))
    (pss_one (ps_ret (pe_tup (pa_cons (pe_ix ix_tup (pv 3) pe_int (fun _ _ => rfl)) (pa_cons (pv 2) (pa_cons (pv 4) pa_nil))))))
    pss_nil)
    (pss_cons (ps_if (PW.pt (pw_and (pt_val (pe_cl c_is_own_field hr (by first | decide | omega) rfl passL (pa_cons (pv 4) pa_nil))) (pw_and1 (pt_cmpR (op_eqD (hu64 hr)) (Fge.pe_cld cd_fields_in hr (by decide) rfl passL (pa_cons (pv 3) pa_nil)) (pe_tup pa_nil) (nomark _)))))
    (pss_one (ps_ret (pe_tup (pa_cons (pe_ix ix_tup (pv 4) pe_int (fun _ _ => rfl)) (pa_cons (pe_ix ix_kdict (C8.pe_gc rfl W.c_TURNED) (pv 2) (fun _ _ => rfl)) (pa_cons (pv 3) pa_nil))))))
    pss_nil)
    (pss_one (ps_ret pe_non)))))), ?_⟩
  cases c with
  | isn p =>
    obtain ⟨x, h1, h2⟩ := ht
    have q2 : ∀ H', Same H H' → Q .non H' := q
    walk_at "g"
    exact q2 _ fun _ _ h => h
  | cmp g l r =>
    obtain ⟨x, y, hx, hy, h2⟩ := ht
    by_cases hg : g = .ne
    · subst hg
      have q2 : ∀ H', Same H H' → Q .non H' := by
        cases l <;> cases r <;> exact q
      walk_at "g"
      refine ⟨_, _, rfl, rfl, D.t_ne, true, rfl, ?_⟩
      walk_at "g"
      exact q2 _ fun _ _ h => h
    obtain ⟨k, hk⟩ := D.t_sg g hg
    walk_at "g"
    refine ⟨_, _, rfl, rfl, hk, false, rfl, ?_⟩
    walk_at "g"
    refine ⟨x, l, rfl, hx, ?_⟩
    cases l with
    | fld p =>
      rw [show isF (.fld p) = true from rfl]
      walk_at "g"
      refine ⟨y, r, rfl, hy, okc.2, fun a1 H1 s1 h1 => ?_⟩
      walk_at "g"
      intro b1 hb1
      have s2 := same_new hb1 (.tup [])
      refine w_eqInts (e := []) (sqT_same h1 s2) (SqT.of upd_same) ?_
      have s12 := s1.trans s2
      have hx2 := hx.tk (Tk.of s12)
      have hy2 := hy.tk (Tk.of s12)
      generalize upd H1 b1 (.tup []) = H2 at s2 s12 hx2 hy2
      cases r with
      | lit v =>
        have q2 : ∀ x a H', Same H H' → SdO H' x a (p, g, v) → Q (.ref x) H' := by
          have e : sideOf (.cmp g (.fld p) (.lit v)) = some (p, g, v) := by
            show (if g = .ne then none else some (p, g, v)) = _
            rw [if_neg hg]
          rw [e] at q
          exact q
        rw [show fldsOf (.lit v) = [] from rfl, decide_eq_true rfl]
        have hx3 : H2 x = some (.tup [.str (Str.ofString "field"), .int 0, .int (p : Int)]) := hx2
        walk_at "g"
        intro z hz
        have s3 := same_new hz (.tup [.int (p : Int), .str (sgS g), .ref y])
        exact q2 z y _ (s12.trans s3) ⟨upd_same, hy2.tk (Tk.of s3)⟩
      | fld k2 =>
        have q2 : ∀ H', Same H H' → Q .non H' := q
        rw [show fldsOf (.fld k2) = [(k2 : Int)] from rfl, decide_eq_false (fun z => by cases z)]
        walk_at "g"
        refine ⟨y, .fld k2, rfl, hy2, ?_⟩
        rw [show isF (.fld k2) = true from rfl]
        walk_at "g"
        refine ⟨x, .fld p, rfl, hx2, okc.1, fun a2 H3 s3 h3 => ?_⟩
        walk_at "g"
        intro b2 hb2
        have s4 := same_new hb2 (.tup [])
        refine w_eqInts (e := []) (sqT_same h3 s4) (SqT.of upd_same) ?_
        rw [show fldsOf (.fld p) = [(p : Int)] from rfl, decide_eq_false (fun z => by cases z)]
        walk_at "g"
        exact q2 _ ((s12.trans s3).trans s4)
    | lit u =>
      rw [show isF (.lit u) = false from rfl]
      walk_at "g"
      refine ⟨y, r, rfl, hy, ?_⟩
      cases r with
      | lit v =>
        have q2 : ∀ H', Same H H' → Q .non H' := q
        rw [show isF (.lit v) = false from rfl]
        walk_at "g"
        exact q2 _ fun _ _ h => h
      | fld p =>
        have q2 : ∀ x a H', Same H H' → SdO H' x a (p, turn g, u) → Q (.ref x) H' := by
          have e : sideOf (.cmp g (.lit u) (.fld p)) = some (p, turn g, u) := by
            show (if g = .ne then none else some (p, turn g, u)) = _
            rw [if_neg hg]
          rw [e] at q
          exact q
        rw [show isF (.fld p) = true from rfl]
        walk_at "g"
        refine ⟨x, .lit u, rfl, hx, okc.1, fun a1 H1 s1 h1 => ?_⟩
        walk_at "g"
        intro b1 hb1
        have s2 := same_new hb1 (.tup [])
        refine w_eqInts (e := []) (sqT_same h1 s2) (SqT.of upd_same) ?_
        have s12 := s1.trans s2
        have hx2 := hx.tk (Tk.of s12)
        have hy2 := hy.tk (Tk.of s12)
        generalize upd H1 b1 (.tup []) = H2 at s2 s12 hx2 hy2
        rw [show fldsOf (.lit u) = [] from rfl, decide_eq_true rfl]
        have hy3 : H2 y = some (.tup [.str (Str.ofString "field"), .int 0, .int (p : Int)]) := hy2
        walk_at "g"
        refine w_kdIx (v := .str (sgS (turn g))) KD_TURNED hk ⟨k, rfl⟩ ?_
        walk_at "g"
        intro z hz
        have s3 := same_new hz (.tup [.int (p : Int), .str (sgS (turn g)), .ref x])
        exact q2 z x _ (s12.trans s3) ⟨upd_same, hx2.tk (Tk.of s3)⟩
end
end K24
end

section
-- part K24G
set_option Elab.async false
set_option linter.all false
set_option maxRecDepth 100000
set_option maxHeartbeats 800000
open PySem PySem.Spec PyProof.Rows L2 Fw
local macro_rules | `(tactic| walk_at "e1") => `(tactic| first
  | ((with_reducible refine' w_var ?hv ?_); (case hv => rfl))
  | ((with_reducible refine' K24.w_ixA ?hh ?ha ?_); (case hh => first | assumption | exact upd_same); (case ha => rfl))
  | ((with_reducible refine' K24.w_eqLF ?hl ?_); (case hl => decide +kernel))
  | ((with_reducible refine' K24.w_eqLT ?hl ?_); (case hl => rfl))
  | ((with_reducible refine' K24.w_neLF ?hl ?_); (case hl => decide +kernel))
  | ((with_reducible refine' K24.w_neLT ?hl ?_); (case hl => rfl))
  | with_reducible refine Fw.w_notV ?_
  | with_reducible refine F24.w_iZipM ?_
  | with_reducible refine F24.w_iZipA ?_
  | with_reducible refine Fge.w_cld ?_
  | with_reducible refine w_c ?_
  | with_reducible refine w_op ?_
  | with_reducible refine w_un ?_
  | with_reducible refine w_cons ?_
  | with_reducible refine w_nil ?_
  | with_reducible refine w_cl ?_
  | with_reducible refine w_cb ?_
  | with_reducible refine w_gname ?_
  | with_reducible refine w_gsub ?_
  | with_reducible refine w_test ?_
  | with_reducible refine w_B ?_
  | with_reducible refine w_bl ?_
  | with_reducible refine w_and ?_
  | with_reducible refine w_or ?_
  | with_reducible refine w_not ?_
  | with_reducible refine w_if ?_
  | with_reducible refine w_I0 ?_
  | with_reducible refine Gk.w_rU ?_
  | with_reducible refine Dq.w_orV ?_
  | with_reducible refine Dq.w_js ?_
  | with_reducible refine Dq.w_js0 ?_
  | with_reducible refine Dq.w_fm ?_
  | with_reducible refine Dq.w_andV ?_
  | with_reducible refine Gk.w_iEnum ?_
  | with_reducible refine Dq.w_dget ?_
  | with_reducible refine Dq.w_dpop1 ?_
  | with_reducible refine Dq.w_ddel ?_
  | with_reducible refine Dq.w_din ?_
  | with_reducible refine Dq.w_dnotin ?_
  | with_reducible refine Dq.w_dget2 ?_
  | with_reducible refine Dq.w_dnew ?_
  | with_reducible refine Dq.w_fldaug ?_
  | with_reducible refine Dq.w_aSub ?_
  | with_reducible refine Dq.w_aAdd ?_
  | with_reducible refine Dq.w_mkd ?_
  | with_reducible refine Dq.w_notN0 ?_
  | with_reducible refine Dq.w_isN0 ?_
  | with_reducible refine Ftw.w_isTI ?_
  | with_reducible refine Ftw.w_isTS ?_
  | with_reducible refine Ftw.w_isTR ?_
  | with_reducible refine Ftw.w_isTN ?_
  | with_reducible refine Ftw.w_isTtt ?_
  | with_reducible refine Ftw.w_isTft ?_
  | with_reducible refine Ftw.w_isTtf ?_
  | with_reducible refine Ftw.w_isNS ?_
  | with_reducible refine Ftw.w_isNB ?_
  | ((with_reducible refine' Ftw.w_isiRS ?hq ?_); (case hq => assumption))
  | ((with_reducible refine' Ftw.w_isiRT ?hq ?_); (case hq => assumption))
  | ((with_reducible refine' Ftw.w_isiRI ?hq ?_); (case hq => assumption))
  | with_reducible refine Ftw.w_isiIT ?_
  | with_reducible refine Ftw.w_isiII ?_
  | with_reducible refine Dq.w_notNR ?_
  | with_reducible refine Dq.w_isNR ?_
  | with_reducible refine Dq.w_notNI ?_
  | with_reducible refine Dq.w_isNI ?_
  | with_reducible refine L2.w_neOs ?_
  | with_reducible refine w_ipI ?_
  | with_reducible refine w_eqS ?_
  | with_reducible refine w_neS ?_
  | with_reducible refine w_eqI ?_
  | with_reducible refine w_neI ?_
  | with_reducible refine w_eqB ?_
  | with_reducible refine w_neB ?_
  | ((with_reducible refine w_eq ?hs ?_); (case hs => rfl))
  | ((with_reducible refine w_ne ?hs ?_); (case hs => rfl))
  | with_reducible refine w_fld ?_
  | with_reducible refine w_bm ?_
  | with_reducible refine w_bm0 ?_
  | with_reducible refine w_sl ?_
  | with_reducible refine w_part ?_
  | with_reducible refine w_partI ?_
  | with_reducible refine w_nopart ?_
  | ((with_reducible refine' w_ixL ?hh ?ha ?_); (case hh => first | assumption | exact upd_same); (case ha => rfl))
  | ((with_reducible refine' w_setLu ?ha ?_); (case ha => rfl))
  | ((with_reducible refine' w_setL ?hh ?ha ?_); (case hh => first | assumption | exact upd_same); (case ha => rfl))
  | with_reducible refine w_iteT ?_
  | with_reducible refine w_iteF ?_
  | with_reducible refine w_lst ?_
  | with_reducible refine w_tup ?_
  | ((with_reducible refine w_new ?hz ?_); (case hz => rfl))
  | with_reducible refine w_lc ?_
  | with_reducible refine w_iL ?_
  | with_reducible refine w_iT ?_
  | with_reducible refine w_iR1 ?_
  | with_reducible refine w_iR2 ?_
  | with_reducible refine w_yes ?_
  | with_reducible refine w_iStr ?_
  | with_reducible exact tyS
  | with_reducible refine And.intro tyS ?_
  | ((with_reducible refine w_find3 ?_); (first | rw [find3_one] | rw [starts3] | skip))
  | ((with_reducible refine w_2s ?_); (try rw [find_one]))
  | ((with_reducible refine w_inS ?_); rw [S_list])
  | ((with_reducible refine w_lenS ?hz ?_); (case hz => first | assumption | omega | decide); rw [SX.S_len])
  | ((with_reducible refine w_addS ?hz ?_); (case hz => first | assumption | omega | decide); rw [vS_cat])
  | with_reducible refine w_mk ?_
  | with_reducible refine w_me ?_
  | with_reducible refine w_sfld ?_
  | ((with_reducible refine' w_gtup ?hh ?hn ?_); (case hh => first | assumption | exact upd_same); (case hn => rfl))
  | with_reducible refine w_gcons ?_
  | with_reducible refine w_gnil ?_
  | with_reducible refine w_repl ?_
  | with_reducible refine w_star ?_
  | with_reducible refine w_revL ?_
  | with_reducible refine w_isiS ?_
  | with_reducible refine w_isiI ?_
  | with_reducible refine w_isiN ?_
  | with_reducible refine w_chain ?_
  | with_reducible refine w_iEnumT ?_
  | with_reducible refine w_iZip3 ?_
  | with_reducible refine w_iZip ?_
  | with_reducible refine w_lenR3 ?_
  | with_reducible refine w_x1i ?_
  | with_reducible refine w_x1b ?_
  | with_reducible refine w_x1s ?_
  | with_reducible refine w_int1i ?_
  | with_reducible refine w_int1b ?_
  | ((with_reducible refine w_mod ?hc ?_); (case hc => omega))
  | ((with_reducible refine w_fdivW ?hc ?hd ?_); (case hc => omega); (case hd => omega))
  | ((with_reducible refine w_mul ?hc ?_); (case hc => first | exact Or.inr ⟨by decide, by decide⟩ | exact Or.inl ⟨by decide, by decide⟩))
  | ((with_reducible refine w_pow ?hc ?_); (case hc => exact ⟨by decide, by decide, by decide⟩)))
local macro_rules | `(tactic| walk_at "f1") => `(tactic| first
  | ((with_reducible refine' K24.g_rows ?hW ?hK ?hs ?hx ?_); (case hW => assumption); (case hK => rfl); (case hs => rfl); (case hx => first | assumption | exact upd_same))
  | ((with_reducible refine' K24.g_kept ?hW ?hK ?hs ?hx ?_); (case hW => assumption); (case hK => rfl); (case hs => rfl); (case hx => first | assumption | exact upd_same))
  | ((with_reducible refine' K24.g_origin ?hW ?hK ?hs ?hx ?_); (case hW => assumption); (case hK => rfl); (case hs => rfl); (case hx => first | assumption | exact upd_same))
  | ((with_reducible refine' K24.g_equals ?hW ?hK ?hs ?hx ?_); (case hW => assumption); (case hK => rfl); (case hs => rfl); (case hx => first | assumption | exact upd_same))
  | ((with_reducible refine' K24.g_low ?hW ?hK ?hs ?hx ?_); (case hW => assumption); (case hK => rfl); (case hs => rfl); (case hx => first | assumption | exact upd_same))
  | ((with_reducible refine' K24.g_high ?hW ?hK ?hs ?hx ?_); (case hW => assumption); (case hK => rfl); (case hs => rfl); (case hx => first | assumption | exact upd_same))
  | walk_at "e1")
local macro_rules | `(tactic| walk_at "s1") => `(tactic| first
  | with_reducible refine w_seq ?_
  | with_reducible refine w_asg ?_
  | with_reducible refine w_ret ?_
  | with_reducible refine w_par ?_
  | with_reducible refine w_drop ?_
  | with_reducible refine w_next ?_
  | with_reducible refine w_ifs ?_
  | ((with_reducible refine' w_aug ?hv ?_); (case hv => rfl))
  | with_reducible refine w_for ?_
  | walk_at "f1")
local macro_rules | `(tactic| walk_at "e") => `(tactic| repeat walk_at "e1")
local macro_rules | `(tactic| walk_at "g") => `(tactic| repeat walk_at "s1")
local macro_rules | `(tactic| walk_at "n1") => `(tactic| ((fail_if_success (with_reducible refine w_if ?_)); walk_at "s1"))
local macro_rules | `(tactic| walk_at "n") => `(tactic| repeat walk_at "n1")
local macro_rules | `(tactic| walk_at "p1") => `(tactic| ((fail_if_success (with_reducible refine w_ifs ?_)); walk_at "s1"))
local macro_rules | `(tactic| walk_at "p") => `(tactic| repeat walk_at "p1")
local macro_rules | `(tactic| walk_at "q1") => `(tactic| ((fail_if_success (with_reducible refine w_seq ?_)); walk_at "s1"))
local macro_rules | `(tactic| walk_at "q") => `(tactic| repeat walk_at "q1")

namespace K24
open Dc Gk M24 M5
def BdO (H : Hp) (v : V) : Option (Sg × RV) → Prop
  | none => v = .non
  | some (g, r) => ∃ z a, v = .ref z ∧ H z = some (.tup [.str (sgS g), .ref a]) ∧ LfO H a (.lit r)
theorem BdO.tk {H H' : Hp} {v : V} {o : Option (Sg × RV)} (h : BdO H v o) (t : Tk H H') : BdO H' v o := by
  rcases o with _ | ⟨g, r⟩
  · exact h
  · obtain ⟨z, a, h1, h2, h3⟩ := h
    exact ⟨z, a, h1, tup_tk h2 t, h3.tk t⟩
def BoO (ad : Ad) (H : Hp) (b : Addr) (B : Bd) : Prop := ∃ dx q, ∃ as : List (Addr × RV), ∃ l h, H b = some (.ins ad.B dx (FB (.ref q) l h)) ∧ H q = some (.tup (as.map fun p => V.ref p.1)) ∧ (∀ p ∈ as, LfO H p.1 (.lit p.2)) ∧ as.map (·.2) = B.1 ∧ BdO H l B.2.1 ∧ BdO H h B.2.2
theorem BoO.tk {ad : Ad} {H H' : Hp} {b : Addr} {B : Bd} (h : BoO ad H b B) (t : Tk H H') : BoO ad H' b B := by
  obtain ⟨dx, q, as, l, h, h1, h2, h3, h4, h5, h6⟩ := h
  exact ⟨dx, q, as, l, h, ins_tk h1 t, tup_tk h2 t, fun p hp => (h3 p hp).tk t, h4, h5.tk t, h6.tk t⟩
def spInB (ad : Ad) : Sp := fun vs H Q _ => ∃ (x dx q : Addr) (l h : V) (xs : List V), vs = [.ref x, .ref q, l, h] ∧ H x = some (.ins ad.B dx []) ∧ (H q = some (.lst xs) ∨ H q = some (.tup xs)) ∧
  ∀ q' H', (∀ a o, a ≠ x → H a = some o → H' a = some o) → H' x = some (.ins ad.B dx (FB (.ref q') l h)) → H' q' = some (.tup xs) → Q .non H'
def opn (B : Bd) : Bool := decide (B.1 = []) && (B.2.1.isNone && B.2.2.isNone)
def spOpen (ad : Ad) : Sp := fun vs H Q _ => ∃ (b : Addr) (B : Bd), vs = [.ref b] ∧ BoO ad H b B ∧ (∀ v ∈ B.1, okv v) ∧ ∀ H', Same H H' → Q (.bl (opn B)) H'
def spShow (ad : Ad) : Sp := fun vs H Q _ => ∃ (b dx : Addr) (v1 v2 v3 : V), vs = [.ref b] ∧ H b = some (.ins ad.B dx (FB v1 v2 v3)) ∧ ∀ p, H p = none → Q (.ref p) (upd H p (.tup [v1, v2, v3]))
theorem sgS_inj {a b : Sg} : sgS a = sgS b → a = b := by
  cases a <;> cases b <;> first
    | (intro _; rfl)
    | (intro h; exact absurd h (by decide +kernel))
theorem inV_sg (g : Sg) : ∀ gs : List Sg, inV (.str (sgS g)) (gs.map fun x => V.str (sgS x)) = decide (g ∈ gs)
  | [] => rfl
  | x :: r => by
    have ih := inV_sg g r
    unfold inV at ih ⊢
    rw [List.map_cons, List.any_cons, ih]
    have e : eqV (.str (sgS x)) (.str (sgS g)) = decide (g = x) := by
      show (sgS x == sgS g) = _
      by_cases c : g = x
      · subst c; simp
      · rw [decide_eq_false c]
        exact beq_eq_false_iff_ne.mpr fun z => c (sgS_inj z).symm
    rw [e]
    by_cases c : g = x
    · subst c; simp
    · simp [c]
theorem sg_flat : ∀ gs : List Sg, (gs.map fun x => V.str (sgS x)).all flatV = true
  | [] => rfl
  | x :: r => by rw [List.map_cons, List.all_cons, sg_flat r]; rfl
/-- bounds as first_bound takes them -/
def HrO (H : Hp) (k : Addr × Addr × Sg × RV) : Prop := H k.1 = some (.tup [.str (sgS k.2.2.1), .ref k.2.1]) ∧ LfO H k.2.1 (.lit k.2.2.2)
theorem HrO.tk {H H' : Hp} {k : Addr × Addr × Sg × RV} (h : HrO H k) (t : Tk H H') : HrO H' k := ⟨tup_tk h.1 t, h.2.tk t⟩
def spFB (K : PySem.W.Frag) : Sp := fun vs H Q _ => ∃ (b s : Addr) (ks : List (Addr × Addr × Sg × RV)) (gs : List Sg), vs = [.ref b, .ref s] ∧ H b = some (.lst (ks.map fun k => V.ref k.1)) ∧ (∀ k ∈ ks, HrO H k) ∧ SqT K H s (gs.map fun g => V.str (sgS g)) ∧
  ∀ v H', Same H H' → BdO H' v (firstB (fun g => decide (g ∈ gs)) (ks.map (·.2.2))) → Q v H'
theorem fb_eq : (fun g => decide (g ∈ [Sg.eq])) = isEq := by funext g; cases g <;> rfl
theorem fb_low : (fun g => decide (g ∈ [Sg.gt, Sg.ge])) = isLow := by funext g; cases g <;> rfl
theorem fb_high : (fun g => decide (g ∈ [Sg.lt, Sg.le])) = isHigh := by funext g; cases g <;> rfl
/-- what stands for each condition in the list of sides -/
abbrev SV := Option (Addr × Addr × Side)
def svV : SV → V
  | none => .non
  | some k => .ref k.1
def SvO (H : Hp) (o : SV) : Prop := ∀ k, o = some k → SdO H k.1 k.2.1 k.2.2
theorem SvO.tk {H H' : Hp} {o : SV} (h : SvO H o) (t : Tk H H') : SvO H' o := fun k e => (h k e).tk t
def spAsk (ad : Ad) : Sp := fun vs H Q _ => ∃ (t pl : Addr) (T : M24.Tm) (ps : List Nat), vs = [.ref t, .ref pl] ∧ TmO H t T ∧ okT T ∧ dep T ≤ 8 ∧ H pl = some (.tup (ps.map fun p : Nat => V.int (p : Int))) ∧ ps.length ≤ 10 ∧
  ∀ b H', Same H H' → BoO ad H' b (askB ((conj T).filterMap sideOf) ps) → Q (.ref b) H'
theorem known_eq : ∀ {os : List SV} {cs : List Cd}, os.map (Option.map (·.2.2)) = cs.map sideOf → (os.filterMap id).map (·.2.2) = cs.filterMap sideOf
  | [], [], _ => rfl
  | [], _ :: _, h => by cases h
  | _ :: _, [], h => by cases h
  | o :: os, c :: cs, h => by
    rw [List.map_cons, List.map_cons] at h
    obtain ⟨h1, h2⟩ := List.cons.inj h
    have ih := known_eq h2
    cases o with
    | none =>
      have e : sideOf c = none := h1.symm
      rw [List.filterMap_cons_none (by rfl), List.filterMap_cons_none e]
      exact ih
    | some k =>
      have e : sideOf c = some k.2.2 := h1.symm
      rw [List.filterMap_cons_some (b := k) (by rfl), List.filterMap_cons_some e, List.map_cons, ih]
section
variable {P : Program} {w : World} {K : PySem.W.Frag} {mg : Str → Option Value} {base : Heap} {ad : Ad}
theorem bo_at {H : Hp} {b : Addr} {B : Bd} (h : BoO ad H b B) {g : Str} (hg : ∀ v1 v2 v3 : V, (FB v1 v2 v3).lookup g = none) {R : Prop} (q : R) : ∃ a dx fs, V.ref b = .ref a ∧ H a = some (.ins ad.B dx fs) ∧ fs.lookup g = none ∧ R := by
  obtain ⟨dx, q', as, l, h, h1, _⟩ := h
  exact ⟨b, dx, _, rfl, h1, hg _ _ _, q⟩
theorem ok_Bounds (W : Ws K mg ad) : Mc P w K mg base 1 "Bounds" ad.B (spInB ad) := by
  refine mc_mk W.b_i W.b_g sc_Bounds___init__ (fun _ _ _ _ _ _ us hl => match us, hl with | [_, _, _, _], _ => rfl) (fun vs H Q E h => ?_) (fun f cdv A outer s H vs Q E hr h => ?_)
  · obtain ⟨x, dx, q', l, h, xs, rfl, _⟩ := h; rfl
  obtain ⟨x, dx, q', l, h, xs, rfl, hx, hl, q⟩ := h
  refine ⟨_, (pss_cons (ps_fld (pv 0) (pe_callTy call_tuple_of rfl W.n_tuple (by decide +kernel) (pa_cons (pv 1) pa_nil)) rfl)
    (pss_cons (ps_fld (pv 0) (pv 2) rfl)
    (pss_one (ps_fld (pv 0) (pv 3) rfl)))), ?_⟩
  have fin : ∀ (b : Addr) (H1 : Hp), (∀ a o, a ≠ x → H a = some o → H1 a = some o) → H1 x = some (.ins ad.B dx []) → H1 b = some (.tup xs) → b ≠ x →
      Q .non (upd H1 x (.ins ad.B dx (FB (.ref b) l h))) := fun b H1 k1 hx1 hb nb => q b _ (fun a o n e => by rw [upd_ne n]; exact k1 a o n e) upd_same (by rw [upd_ne nb]; exact hb)
  walk_at "g"
  rcases hl with hl | hl
  · refine ⟨q', xs, rfl, .inl ⟨SqL.of hl, fun b hb => ?_⟩⟩
    have nb : b ≠ x := fun z => by rw [z, hx] at hb; cases hb
    have k1 : ∀ a o, a ≠ x → H a = some o → (upd H b (.tup xs)) a = some o := fun a o _ e => same_new hb _ _ _ e
    have hx1 := same_new hb (.tup xs) _ _ hx
    have eb : (upd H b (.tup xs)) b = some (.tup xs) := upd_same
    generalize upd H b (.tup xs) = H1 at k1 hx1 eb
    walk_at "g"
    refine ⟨x, ad.B, dx, _, rfl, hx1, W.b_cl, W.b_equals, by show 0 < 1000; decide, ?_⟩
    rw [pb1]
    walk_at "g"
    refine ⟨x, ad.B, dx, _, rfl, upd_same, W.b_cl, W.b_low, by show 1 < 1000; decide, ?_⟩
    rw [upd_upd, pb2]
    walk_at "g"
    refine ⟨x, ad.B, dx, _, rfl, upd_same, W.b_cl, W.b_high, by show 2 < 1000; decide, ?_⟩
    rw [upd_upd, pb3]
    exact fin b H1 k1 hx1 eb nb
  · have nb : q' ≠ x := fun z => by rw [z, hx] at hl; cases hl
    refine ⟨q', xs, rfl, .inr ⟨SqT.of hl, ?_⟩⟩
    walk_at "g"
    refine ⟨x, ad.B, dx, _, rfl, hx, W.b_cl, W.b_equals, by show 0 < 1000; decide, ?_⟩
    rw [pb1]
    walk_at "g"
    refine ⟨x, ad.B, dx, _, rfl, upd_same, W.b_cl, W.b_low, by show 1 < 1000; decide, ?_⟩
    rw [upd_upd, pb2]
    walk_at "g"
    refine ⟨x, ad.B, dx, _, rfl, upd_same, W.b_cl, W.b_high, by show 2 < 1000; decide, ?_⟩
    rw [upd_upd, pb3]
    exact fin q' H (fun a o _ e => e) hx hl nb
theorem ok_shown (W : Ws K mg ad) : Me P w K mg base 1 ad.B "shown" (spShow ad) := by
  refine me_mk W.b_shown W.b_cl sc_Bounds_shown (fun _ _ _ _ _ _ us hl => match us, hl with | [_], _ => rfl) (fun vs H Q E h => ?_) (fun f cdv A outer s H vs Q E hr h => ?_)
  · obtain ⟨b, dx, v1, v2, v3, rfl, _⟩ := h; rfl
  obtain ⟨b, dx, v1, v2, v3, rfl, hb, q⟩ := h
  refine ⟨_, (pss_one (ps_ret (pe_tup (pa_cons (pe_fld (pv 0) rfl) (pa_cons (pe_fld (pv 0) rfl) (pa_cons (pe_fld (pv 0) rfl) pa_nil)))))), ?_⟩
  walk_at "g"
  exact fun p hp => q p hp
theorem ok_is_open (W : Ws K mg ad) : Me P w K mg base 1 ad.B "is_open" (spOpen ad) := by
  refine me_mk W.b_is_open W.b_cl sc_Bounds_is_open (fun _ _ _ _ _ _ us hl => match us, hl with | [_], _ => rfl) (fun vs H Q E h => ?_) (fun f cdv A outer s H vs Q E hr h => ?_)
  · obtain ⟨b, B, rfl, _⟩ := h; rfl
  obtain ⟨b, ⟨es, lo, hi⟩, rfl, ⟨dx, q', as, l, h, h1, h2, h3, h4, h5, h6⟩, ok, q⟩ := h
  have h4' : as.map (·.2) = es := h4
  refine ⟨_, (pss_one (ps_ret (pe_and (pe_cmpR (op_eqD (hu64 hr)) (pe_fld (pv 0) rfl) (pe_tup pa_nil) (nomark _)) (pe_and (pe_cmpR op_isN1 (pe_fld (pv 0) rfl) pe_non (nomark _)) (pe_one (pe_cmpR op_isN1 (pe_fld (pv 0) rfl) pe_non (nomark _))))))), ?_⟩
  walk_at "g"
  intro T hT
  have s1 := same_new hT (.tup [])
  refine w_eqNilT (k := 1) (SqT.of (s1 _ _ h2)) (lits_dp fun p hp => (h3 p hp).tk (Tk.of s1)) (fun d hd => ?_) (by decide) (SqT.of upd_same) ?_
  · obtain ⟨p, hp, rfl⟩ := List.mem_map.mp hd
    exact lf_fine (ok p.2 (by rw [← h4]; exact List.mem_map.mpr ⟨p, hp, rfl⟩))
  have hb := s1 _ _ h1
  generalize upd H T (.tup []) = H1 at s1 hb
  have q2 := q H1 s1
  clear q
  walk_at "g"
  refine w_iteD (fun c => ?_) (fun c => ?_)
  · have c2 : es = [] := by rw [← h4']; exact List.map_eq_nil_iff.mpr (List.map_eq_nil_iff.mp c)
    subst c2
    rcases lo with _ | ⟨g1, r1⟩
    · have h5' : l = .non := h5
      subst h5'
      walk_at "g"
      rcases hi with _ | ⟨g2, r2⟩
      · have h6' : h = .non := h6
        subst h6'
        walk_at "g"
        exact q2
      · obtain ⟨z, a, rfl, _⟩ := h6
        walk_at "g"
        exact q2
    · obtain ⟨z, a, rfl, _⟩ := h5
      walk_at "g"
      exact q2
  · have c2 : es ≠ [] := fun z => c (by rw [z] at h4'; exact List.map_eq_nil_iff.mpr (List.map_eq_nil_iff.mp h4'))
    have e : opn (es, lo, hi) = false := by unfold opn; rw [decide_eq_false c2]; rfl
    rw [e] at q2
    exact q2
theorem ok_first_bound (W : Ws K mg ad) : Cl P w K mg base 1 "first_bound" (spFB K) := by
  refine cl_mk W.d_first_bound sc_first_bound (fun _ _ _ _ _ _ us hl => match us, hl with | [_, _], _ => rfl) (fun vs H Q E h => ?_) (fun f cdv A outer s H vs Q E hr h => ?_)
  · obtain ⟨b, s', ks, gs, rfl, _⟩ := h; rfl
  obtain ⟨b, s', ks, gs, rfl, hb, hk, hs, q⟩ := h
  refine ⟨_, (pss_cons (ps_for (passes_of rfl) rfl (pi_list (pv 0)) (pg_tup rfl (pgs_cons (pg_name (i := 2) sc_first_bound.nd rfl (Or.inl rfl)) (pgs_cons (pg_name (i := 3) sc_first_bound.nd rfl (Or.inl rfl)) pgs_nil)))
    (pss_one (ps_if (pt_cmpR op_in_seq (pv 2) (pv 1) (by with_unfolding_all rfl))
    (pss_one (ps_ret (pe_tup (pa_cons (pv 2) (pa_cons (pv 3) pa_nil)))))
    pss_nil)))
    (pss_one (ps_ret pe_non))), ?_⟩
  walk_at "g"
  refine w_forL (SqL.of hb) (fun i σ H' => H' = H ∧ (∃ v2 v3 : Option V, σ = [some (.ref b), some (.ref s'), v2, v3]) ∧ firstB (fun g => decide (g ∈ gs)) (ks.map (·.2.2)) = firstB (fun g => decide (g ∈ gs)) ((ks.drop i).map (·.2.2)))
    ⟨rfl, ⟨none, none, rfl⟩, rfl⟩ (fun i σ H' _ h => by rw [h.1]; exact SqL.of hb) ?_ ?_
  · rintro i x σ H' hi ⟨rfl, ⟨v2, v3, rfl⟩, e⟩
    obtain ⟨k, hk2, rfl⟩ := map_get hi
    obtain ⟨h1, h2⟩ := hk k (List.mem_of_getElem? hk2)
    have hlt := (List.getElem?_eq_some_iff.mp hk2).1
    have ed : ks.drop i = k :: ks.drop (i + 1) := by rw [List.drop_eq_getElem_cons hlt, (List.getElem?_eq_some_iff.mp hk2).2]
    rw [ed, List.map_cons] at e
    walk_at "g"
    refine ⟨s', _, rfl, .inr hs, rfl, sg_flat gs, ?_⟩
    rw [if_neg (by decide), inV_sg]
    walk_at "g"
    refine w_iteD (fun c => ?_) (fun c => ?_)
    · have e2 : firstB (fun g => decide (g ∈ gs)) (ks.map (·.2.2)) = some k.2.2 := by
        rw [e]
        unfold firstB
        simp [List.find?_cons, c]
      rw [e2] at q
      walk_at "g"
      intro z hz
      have s1 := same_new hz (.tup [.str (sgS k.2.2.1), .ref k.2.1])
      exact q (.ref z) _ s1 ⟨z, k.2.1, rfl, upd_same, h2.tk (Tk.of s1)⟩
    · refine ⟨rfl, ⟨_, _, rfl⟩, ?_⟩
      rw [e]
      unfold firstB
      simp [List.find?_cons, c]
  · rintro σ H' ⟨rfl, ⟨v2, v3, rfl⟩, e⟩
    rw [List.length_map, List.drop_length] at e
    rw [e] at q
    walk_at "g"
    exact q .non _ (fun _ _ h => h) rfl
theorem ok_asked_of (W : Ws K mg ad) (c_bound_conjuncts : Cl P w K mg base 1 "bound_conjuncts" spBC) (c_sided : Cl P w K mg base 5 "sided" spSided) (c_first_bound : Cl P w K mg base 1 "first_bound" (spFB K)) (c_Bounds : Mc P w K mg base 1 "Bounds" ad.B (spInB ad)) :
    Cl P w K mg base 6 "asked_of" (spAsk ad) := by
  refine cl_mk W.d_asked_of sc_asked_of (fun _ _ _ _ _ _ us hl => match us, hl with | [_, _], _ => rfl) (fun vs H Q E h => ?_) (fun f cdv A outer s H vs Q E hr h => ?_)
  · obtain ⟨t, pl, T, ps, rfl, _⟩ := h; rfl
  obtain ⟨t, pl, T, ps, rfl, ht, okt, hd, hpl, h10, q⟩ := h
  have lcj := dep_conj T
  have okc := okT_iff.mp okt
  refine ⟨_, (pss_cons (ps_setLc (i := 2) (own := [("tree", 3)]) rfl sc_asked_of.nd rfl rfl (sw_true rfl rfl rfl (by decide +kernel)) (pi_tup (pe_cl c_bound_conjuncts hr (by first | decide | omega) rfl passL (pa_cons (pv 0) pa_nil))) (blkOk_by (own := [("tree", 3)]) (N := ["test", "places", "sides", "tree", "known", "side", "equals", "place", "here", "where", "sign", "same"]) (sc := defScope s_asked_of) (by decide +kernel)) (fun _ _ _ _ _ => (pg_name (i := 3) sc_asked_of.nd rfl (by first | exact Or.inl rfl | exact Or.inr rfl))) (fun _ _ _ _ _ => pts_nil) (fun _ _ _ _ _ => (pe_cl c_sided hr (by first | decide | omega) rfl passL (pa_cons (pv 3) pa_nil))))
    (pss_cons (ps_setLc (i := 4) (own := [("side", 5)]) rfl sc_asked_of.nd rfl rfl (sw_true rfl rfl rfl (by decide +kernel)) (pi_list (pv 2)) (blkOk_by (own := [("side", 5)]) (N := ["test", "places", "sides", "tree", "known", "side", "equals", "place", "here", "where", "sign", "same"]) (sc := defScope s_asked_of) (by decide +kernel)) (fun _ _ _ _ _ => (pg_name (i := 5) sc_asked_of.nd rfl (by first | exact Or.inl rfl | exact Or.inr rfl))) (fun _ _ _ _ _ => (pts_one (pt_cmpR op_notN1 (pv 5) pe_non (nomark _)))) (fun _ _ _ _ _ => (pv 5)))
    (pss_cons (ps_set (i := 6) sc_asked_of.nd rfl (Or.inl rfl) (pe_lst pa_nil))
    (pss_cons (ps_for (passes_of rfl) rfl (pi_tup (pv 1)) (pg_name (i := 7) sc_asked_of.nd rfl (by first | exact Or.inl rfl | exact Or.inr rfl))
    (pss_cons (ps_setLc (i := 8) (own := [("where", 9), ("sign", 10), ("tree", 3)]) rfl sc_asked_of.nd rfl rfl (sw_true rfl rfl rfl (by decide +kernel)) (pi_list (pv 4)) (blkOk_by (own := [("where", 9), ("sign", 10), ("tree", 3)]) (N := ["test", "places", "sides", "tree", "known", "side", "equals", "place", "here", "where", "sign", "same"]) (sc := defScope s_asked_of) (by decide +kernel)) (fun _ _ _ _ _ => (Fw.pg_tupK K 3 rfl rfl (pgs_cons (pg_name (i := 9) sc_asked_of.nd rfl (by first | exact Or.inl rfl | exact Or.inr rfl)) (pgs_cons (pg_name (i := 10) sc_asked_of.nd rfl (by first | exact Or.inl rfl | exact Or.inr rfl)) (pgs_cons (pg_name (i := 3) sc_asked_of.nd rfl (by first | exact Or.inl rfl | exact Or.inr rfl)) pgs_nil))) rfl rfl)) (fun _ _ _ _ _ => (pts_one (pt_cmpR op_eq (pv 9) (pv 7) (nomark _)))) (fun _ _ _ _ _ => (pe_tup (pa_cons (pv 10) (pa_cons (pv 3) pa_nil)))))
    (pss_cons (ps_set (i := 11) sc_asked_of.nd rfl (Or.inl rfl) (pe_cl c_first_bound hr (by first | decide | omega) rfl passL (pa_cons (pv 8) (pa_cons (pe_tup (pa_cons pe_str pa_nil)) pa_nil))))
    (pss_cons (ps_if (pt_cmpR op_isN1 (pv 11) pe_non (nomark _))
    (pss_one (ps_ret (pe_mc c_Bounds hr (by decide) rfl passL (pa_cons (pv 6) (pa_cons (pe_cl c_first_bound hr (by first | decide | omega) rfl passL (pa_cons (pv 8) (pa_cons (C8.pe_gc rfl W.c_LOW_SIGNS) pa_nil))) (pa_cons (pe_cl c_first_bound hr (by first | decide | omega) rfl passL (pa_cons (pv 8) (pa_cons (C8.pe_gc rfl W.c_HIGH_SIGNS) pa_nil))) pa_nil))))))
    pss_nil)
    (pss_one (ps_expr (pe_bm PySem.F.plainAttrs_list PySem.F.slot_list_append PySem.F.type_list_append mt_append (pv 6) (pa_cons (pe_ix ix_tup (pv 11) pe_int (fun _ _ => rfl)) pa_nil))))))))
    (pss_one (ps_ret (pe_mc c_Bounds hr (by decide) rfl passL (pa_cons (pv 6) (pa_cons pe_non (pa_cons pe_non pa_nil)))))))))), ?_⟩
  walk_at "g"
  refine ⟨t, T, rfl, ht, okt, hd, fun p as H1 s1 hp has hc => ?_⟩
  have las : as.length = dep T + 1 := by rw [← lcj, ← hc, List.length_map]
  refine w_lcTn (SqT.of hp) fun D hD => ⟨fun i H2 => ∃ os : List SV, Same H1 H2 ∧ H2 D = some (.lst (os.map svV)) ∧ os.map (Option.map (·.2.2)) = (as.take i).map (fun r => sideOf r.2) ∧ (∀ o ∈ os, SvO H2 o), ⟨[], same_new hD _, upd_same, rfl, fun o ho => by cases ho⟩, fun i H2 _ ⟨os, e, _⟩ => SqT.of (e _ _ hp), ?_, ?_⟩
  · rintro i x H2 hi ⟨os, e2, eD, he, ho⟩
    obtain ⟨r, hr2, rfl⟩ := map_get hi
    have rin := List.mem_of_getElem? hr2
    have lo : os.length = i := by
      have h1 := congrArg List.length he
      rw [List.length_map, List.length_map, List.length_take] at h1
      have := (List.getElem?_eq_some_iff.mp hr2).1
      omega
    have hcr : okC r.2 := okc r.2 (by rw [← hc]; exact List.mem_map.mpr ⟨r, rin, rfl⟩)
    walk_at "g"
    refine ⟨rfl, ?_⟩
    walk_at "g"
    have fin : ∀ (o : SV) (H3 : Hp), Same H2 H3 → SvO H3 o → o.map (·.2.2) = sideOf r.2 → ∃ acc, H3 D = some (.lst acc) ∧ acc.length < sizeLine ∧ ∃ os : List SV, Same H1 (upd H3 D (.lst (acc ++ [svV o]))) ∧ (upd H3 D (.lst (acc ++ [svV o]))) D = some (.lst (os.map svV)) ∧ os.map (Option.map (·.2.2)) = (as.take (i + 1)).map (fun r => sideOf r.2) ∧ (∀ u ∈ os, SvO (upd H3 D (.lst (acc ++ [svV o]))) u) := fun o H3 e3 h1 h2 => by
      have eD3 := e3 _ _ eD
      refine ⟨_, eD3, by rw [List.length_map, lo]; exact Nat.lt_of_lt_of_le (by have := (List.getElem?_eq_some_iff.mp hr2).1; omega : i < 20) (by decide), os ++ [o], same_upd (e2.trans e3) hD, by rw [upd_same, List.map_append]; rfl, ?_, fun u hu => ?_⟩
      · rw [List.map_append, he, List.take_add_one, hr2, List.map_append]
        show _ ++ [o.map (·.2.2)] = _ ++ [sideOf r.2]
        rw [h2]
      · rcases List.mem_append.mp hu with hu | hu
        · exact ((ho u hu).tk (Tk.of e3)).tk (Tk.wr eD3)
        · rw [List.mem_singleton.mp hu]
          exact h1.tk (Tk.wr eD3)
    refine ⟨r.1, r.2, rfl, (has r rin).tk (Tk.of e2), hcr, ?_⟩
    cases hs : sideOf r.2 with
    | none => exact fun H3 e3 => fin none H3 e3 (fun k z => by cases z) hs.symm
    | some s' => exact fun x a H3 e3 sd => fin (some (x, a, s')) H3 e3 (fun k z => by cases z; exact sd) hs.symm
  · rintro H2 ⟨os, e2, eD, he, ho⟩
    rw [List.length_map, List.take_length, show as.map (fun r => sideOf r.2) = (as.map (·.2)).map sideOf by rw [List.map_map]; rfl, hc] at he
    have kn := known_eq he
    have los : os.length ≤ 9 := by
      have h1 := congrArg List.length he
      rw [List.length_map, List.length_map, lcj] at h1
      omega
    have s12 := s1.trans e2
    clear e2 has hp las hD hc s1
    walk_at "g"
    refine w_lcLn (SqL.of eD) fun D2 hD2 => ⟨fun i H3 => Same H2 H3 ∧ H3 D2 = some (.lst (((os.take i).filterMap id).map fun k => V.ref k.1)), ⟨same_new hD2 _, upd_same⟩, fun i H3 _ h => SqL.of (h.1 _ _ eD), ?_, ?_⟩
    · rintro i x H3 hi ⟨e3, eD2⟩
      obtain ⟨o, ho2, rfl⟩ := map_get hi
      walk_at "g"
      refine ⟨rfl, ?_⟩
      cases o with
      | none =>
        rw [show svV none = V.non from rfl]
        walk_at "g"
        refine ⟨e3, ?_⟩
        rw [List.take_add_one, ho2, List.filterMap_append]
        simpa using eD2
      | some k =>
        rw [show svV (some k) = V.ref k.1 from rfl]
        walk_at "g"
        refine ⟨_, eD2, ?_, same_upd e3 hD2, ?_⟩
        · rw [List.length_map]
          have h1 := List.length_filterMap_le id (os.take i)
          rw [List.length_take] at h1
          exact Nat.lt_of_le_of_lt (by omega : _ ≤ 9) (by decide)
        · rw [upd_same, List.take_add_one, ho2, List.filterMap_append, List.map_append]
          rfl
    · rintro H3 ⟨e3, eD2⟩
      rw [List.length_map, List.take_length] at eD2
      have hks : ∀ k ∈ os.filterMap id, SdO H3 k.1 k.2.1 k.2.2 := fun k hk => by
        obtain ⟨o, h1, h2⟩ := List.mem_filterMap.mp hk
        have h3 : o = some k := h2
        exact (ho o h1 k h3).tk (Tk.of e3)
      have lks : (os.filterMap id).length ≤ 9 := Nat.le_trans (List.length_filterMap_le _ _) los
      have s13 := s12.trans e3
      generalize os.filterMap id = ks at eD2 kn hks lks
      clear e3 ho he eD hD2 s12 los
      walk_at "g"
      intro L hL
      have s4 := same_new hL (.lst [])
      have eL : (upd H3 L (.lst [])) L = some (.lst []) := upd_same
      have hL0 : H L = none := s13.free hL
      have s14 := s13.trans s4
      have eD4 := s4 _ _ eD2
      have hks4 : ∀ k ∈ ks, SdO (upd H3 L (.lst [])) k.1 k.2.1 k.2.2 := fun k hk => (hks k hk).tk (Tk.of s4)
      have neLD : D2 ≠ L := fun z => by rw [z, hL] at eD2; cases eD2
      generalize upd H3 L (.lst []) = H4 at s4 eL s14 eD4 hks4
      clear hks s13 s4 eD2 hL
      walk_at "g"
      refine w_forT (SqT.of (s14 _ _ hpl)) (fun i σ H' => Same H H' ∧ Tk H4 H' ∧ H' D2 = some (.lst (ks.map fun k => V.ref k.1)) ∧ (∃ v3 v5 v7 v8 v9 v10 v11 : Option V, σ = [some (.ref t), some (.ref pl), some (.ref D), v3, some (.ref D2), v5, some (.ref L), v7, v8, v9, v10, v11]) ∧ ∃ es : List (Addr × RV), H' L = some (.lst (es.map fun r => V.ref r.1)) ∧ (∀ r ∈ es, LfO H' r.1 (.lit r.2)) ∧ es.length = i ∧ askB (ks.map (·.2.2)) ps = (es.map (·.2) ++ (askB (ks.map (·.2.2)) (ps.drop i)).1, (askB (ks.map (·.2.2)) (ps.drop i)).2))
        ⟨s14, fun _ _ h _ => h, eD4, ⟨_, _, _, _, _, _, _, rfl⟩, [], eL, fun r hr => (by cases hr), rfl, rfl⟩ (fun i σ H' _ h => SqT.of (h.1 _ _ hpl)) ?_ ?_
      · rintro i x σ H' hi ⟨sH, k4, eD5, ⟨v3, v5, v7, v8, v9, v10, v11, rfl⟩, es, eL5, hes, les, ha⟩
        obtain ⟨pn, hpn, rfl⟩ := map_get hi
        have hi2 := (List.getElem?_eq_some_iff.mp hpn).1
        have ed : ps.drop i = pn :: ps.drop (i + 1) := by rw [List.drop_eq_getElem_cons hi2, (List.getElem?_eq_some_iff.mp hpn).2]
        rw [ed, askB] at ha
        walk_at "g"
        refine w_lcLn (SqL.of eD5) fun D6 hD6 => ⟨fun j H6 => ∃ hs : List (Addr × Addr × Sg × RV), Same H' H6 ∧ H6 D6 = some (.lst (hs.map fun k => V.ref k.1)) ∧ (∀ k ∈ hs, HrO H6 k) ∧ hs.map (·.2.2) = here ((ks.take j).map (·.2.2)) pn ∧ hs.length ≤ j, ⟨[], same_new hD6 _, upd_same, fun k hk => (by cases hk), rfl, Nat.le_refl _⟩, fun j H6 _ ⟨hs, h, _⟩ => SqL.of (h _ _ eD5), ?_, ?_⟩
        · rintro j x H6 hj ⟨hs, s6, eD6, hhs, hh, lhs⟩
          obtain ⟨k, hk2, rfl⟩ := map_get hj
          have hj2 := (List.getElem?_eq_some_iff.mp hk2).1
          have sd := ((hks4 k (List.mem_of_getElem? hk2)).tk k4).tk (Tk.of s6)
          have e1 := sd.1
          have hstep : here ((ks.take (j + 1)).map (·.2.2)) pn = here ((ks.take j).map (·.2.2)) pn ++ (if k.2.2.1 = pn then [k.2.2.2] else []) := by
            unfold here
            rw [List.take_add_one, hk2, List.map_append, List.filter_append, List.map_append]
            congr 1
            by_cases c : k.2.2.1 = pn <;> simp [c]
          walk_at "g"
          refine ⟨rfl, ?_⟩
          walk_at "g"
          refine w_iteD (fun c => ?_) (fun c => ?_)
          · have c2 : k.2.2.1 = pn := by omega
            walk_at "g"
            intro y hy
            have s7 := same_new hy (.tup [.str (sgS k.2.2.2.1), .ref k.2.1])
            have eD7 := s7 _ _ eD6
            refine ⟨_, eD7, by rw [List.length_map]; exact Nat.lt_of_le_of_lt (by omega : _ ≤ 9) (by decide), hs ++ [(y, k.2.1, k.2.2.2)], same_upd (s6.trans s7) hD6, by rw [upd_same, List.map_append]; rfl, fun r hr => ?_, ?_, by rw [List.length_append]; exact Nat.succ_le_succ lhs⟩
            · rcases List.mem_append.mp hr with hr | hr
              · exact ((hhs r hr).tk (Tk.of s7)).tk (Tk.wr eD7)
              · rw [List.mem_singleton.mp hr]
                exact HrO.tk ⟨upd_same, sd.2.tk (Tk.of s7)⟩ (Tk.wr eD7)
            · rw [List.map_append, hh, hstep, if_pos c2]
              rfl
          · have c2 : ¬ k.2.2.1 = pn := fun z => c (by rw [z])
            exact ⟨hs, s6, eD6, hhs, by rw [hstep, if_neg c2, List.append_nil]; exact hh, Nat.le_succ_of_le lhs⟩
        · rintro H6 ⟨hs, s6, eD6, hhs, hh, lhs⟩
          rw [List.length_map, List.take_length] at hh
          have eL6 := s6 _ _ eL5
          have eD56 := s6 _ _ eD5
          have hes6 : ∀ r ∈ es, LfO H6 r.1 (.lit r.2) := fun r hr => (hes r hr).tk (Tk.of s6)
          have sH6 := sH.trans s6
          have k6 := k4.trans (Tk.of s6)
          clear hes eL5 eD5 sH k4 s6
          walk_at "g"
          intro y hy
          have s7 := same_new hy (.tup [.str (Str.ofString "=")])
          have ey : (upd H6 y (.tup [.str (Str.ofString "=")])) y = some (.tup [.str (Str.ofString "=")]) := upd_same
          refine ⟨D6, y, hs, [.eq], rfl, s7 _ _ eD6, fun k hk => (hhs k hk).tk (Tk.of s7), SqT.of ey, fun v H8 s8 hv => ?_⟩
          rw [fb_eq, hh] at hv
          have s78 := s7.trans s8
          have eL8 := s78 _ _ eL6
          have eD8 := s78 _ _ eD6
          have eD28 := s78 _ _ eD56
          have hhs8 : ∀ k ∈ hs, HrO H8 k := fun k hk => (hhs k hk).tk (Tk.of s78)
          have hes8 : ∀ r ∈ es, LfO H8 r.1 (.lit r.2) := fun r hr => (hes6 r hr).tk (Tk.of s78)
          have sH8 := sH6.trans s78
          have k8 := k6.trans (Tk.of s78)
          clear s7 s8 s78 eL6 eD6 eD56 hhs hes6 sH6 k6 ey
          cases hf : firstB isEq (here (ks.map (·.2.2)) pn) with
          | none =>
            rw [hf] at hv ha
            have hv2 : v = .non := hv
            subst hv2
            walk_at "g"
            refine ⟨D6, ad.lo, hs, [.gt, .ge], rfl, eD8, hhs8, W.lo_t H8, fun v1 H9 s9 hv1 => ?_⟩
            rw [fb_low, hh] at hv1
            walk_at "g"
            refine ⟨D6, ad.hi, hs, [.lt, .le], rfl, s9 _ _ eD8, fun k hk => (hhs8 k hk).tk (Tk.of s9), W.hi_t H9, fun v2 H10 s10 hv2 => ?_⟩
            rw [fb_high, hh] at hv2
            have eL10 := (s9.trans s10) _ _ eL8
            walk_at "g"
            intro x dx hx hdx ne
            refine ⟨x, dx, L, v1, v2, _, rfl, upd_same, .inl (by rw [upd_ne (ne_of_none eL10 hx), upd_ne (ne_of_none eL10 hdx)]; exact eL10), fun q' H11 keep hx11 hq11 => ⟨rfl, ?_⟩⟩
            have s11 : Same H10 H11 := fun a o h => keep a o (ne_of_none h hx) (by rw [upd_ne (ne_of_none h hx), upd_ne (ne_of_none h hdx)]; exact h)
            refine q x H11 (((sH8.trans s9).trans s10).trans s11) ⟨dx, q', es, v1, v2, hx11, hq11, fun r hr => (hes8 r hr).tk (Tk.of ((s9.trans s10).trans s11)), ?_, ?_, ?_⟩
            · rw [← kn, ha]
              show es.map (·.2) = es.map (·.2) ++ []
              rw [List.append_nil]
            · rw [← kn, ha]
              exact hv1.tk (Tk.of (s10.trans s11))
            · rw [← kn, ha]
              exact hv2.tk (Tk.of s11)
          | some s' =>
            rw [hf] at hv ha
            obtain ⟨z, a, rfl, hz, hla⟩ := hv
            walk_at "g"
            refine ⟨tyL eL8, ?_⟩
            walk_at "g"
            refine w_app eL8 (by rw [List.length_map, les]; exact Nat.lt_of_lt_of_le hi2 (Nat.le_trans h10 (by decide))) ?_
            walk_at "g"
            have kw : Tk H8 (upd H8 L (.lst ((es.map fun r => V.ref r.1) ++ [V.ref a]))) := Tk.wr eL8
            refine ⟨same_upd sH8 hL0, k8.trans kw, by rw [upd_ne neLD]; exact eD28, ⟨_, _, _, _, _, _, _, rfl⟩, es ++ [(a, s'.2)], by rw [upd_same, List.map_append]; rfl, fun r hr => ?_, by rw [List.length_append, les]; rfl, ?_⟩
            · rcases List.mem_append.mp hr with hr | hr
              · exact (hes8 r hr).tk kw
              · rw [List.mem_singleton.mp hr]
                exact hla.tk kw
            · rw [ha, List.map_append]
              show (es.map (·.2) ++ (s'.2 :: (askB (ks.map (·.2.2)) (ps.drop (i + 1))).1), _) = _
              rw [List.append_assoc]
              rfl
      · rintro σ H' ⟨sH, k4, eD5, ⟨v3, v5, v7, v8, v9, v10, v11, rfl⟩, es, eL5, hes, les, ha⟩
        rw [List.length_map, List.drop_length] at ha
        walk_at "g"
        intro x dx hx hdx ne
        refine ⟨x, dx, L, .non, .non, _, rfl, upd_same, .inl (by rw [upd_ne (ne_of_none eL5 hx), upd_ne (ne_of_none eL5 hdx)]; exact eL5), fun q' H11 keep hx11 hq11 => ⟨rfl, ?_⟩⟩
        have s11 : Same H' H11 := fun a o h => keep a o (ne_of_none h hx) (by rw [upd_ne (ne_of_none h hx), upd_ne (ne_of_none h hdx)]; exact h)
        refine q x H11 (sH.trans s11) ⟨dx, q', es, .non, .non, hx11, hq11, fun r hr => (hes r hr).tk (Tk.of s11), ?_, ?_, ?_⟩
        · rw [← kn, ha]
          show es.map (·.2) = es.map (·.2) ++ []
          rw [List.append_nil]
        · rw [← kn, ha]
          rfl
        · rw [← kn, ha]
          rfl
end
end K24
end

section
-- part K24H
set_option Elab.async false
set_option linter.all false
set_option maxRecDepth 100000
set_option maxHeartbeats 800000
open PySem PySem.Spec PyProof.Rows L2 Fw
local macro_rules | `(tactic| walk_at "e1") => `(tactic| first
  | ((with_reducible refine' w_var ?hv ?_); (case hv => rfl))
  | ((with_reducible refine' K24.w_ixA ?hh ?ha ?_); (case hh => first | assumption | exact upd_same); (case ha => rfl))
  | ((with_reducible refine' K24.w_eqLF ?hl ?_); (case hl => decide +kernel))
  | ((with_reducible refine' K24.w_eqLT ?hl ?_); (case hl => rfl))
  | ((with_reducible refine' K24.w_neLF ?hl ?_); (case hl => decide +kernel))
  | ((with_reducible refine' K24.w_neLT ?hl ?_); (case hl => rfl))
  | with_reducible refine Fw.w_notV ?_
  | with_reducible refine F24.w_iZipM ?_
  | with_reducible refine F24.w_iZipA ?_
  | with_reducible refine Fge.w_cld ?_
  | with_reducible refine w_c ?_
  | with_reducible refine w_op ?_
  | with_reducible refine w_un ?_
  | with_reducible refine w_cons ?_
  | with_reducible refine w_nil ?_
  | with_reducible refine w_cl ?_
  | with_reducible refine w_cb ?_
  | with_reducible refine w_gname ?_
  | with_reducible refine w_gsub ?_
  | with_reducible refine w_test ?_
  | with_reducible refine w_B ?_
  | with_reducible refine w_bl ?_
  | with_reducible refine w_and ?_
  | with_reducible refine w_or ?_
  | with_reducible refine w_not ?_
  | with_reducible refine w_if ?_
  | with_reducible refine w_I0 ?_
  | with_reducible refine Gk.w_rU ?_
  | with_reducible refine Dq.w_orV ?_
  | with_reducible refine Dq.w_js ?_
  | with_reducible refine Dq.w_js0 ?_
  | with_reducible refine Dq.w_fm ?_
  | with_reducible refine Dq.w_andV ?_
  | with_reducible refine Gk.w_iEnum ?_
  | with_reducible refine Dq.w_dget ?_
  | with_reducible refine Dq.w_dpop1 ?_
  | with_reducible refine Dq.w_ddel ?_
  | with_reducible refine Dq.w_din ?_
  | with_reducible refine Dq.w_dnotin ?_
  | with_reducible refine Dq.w_dget2 ?_
  | with_reducible refine Dq.w_dnew ?_
  | with_reducible refine Dq.w_fldaug ?_
  | with_reducible refine Dq.w_aSub ?_
  | with_reducible refine Dq.w_aAdd ?_
  | with_reducible refine Dq.w_mkd ?_
  | with_reducible refine Dq.w_notN0 ?_
  | with_reducible refine Dq.w_isN0 ?_
  | with_reducible refine Ftw.w_isTI ?_
  | with_reducible refine Ftw.w_isTS ?_
  | with_reducible refine Ftw.w_isTR ?_
  | with_reducible refine Ftw.w_isTN ?_
  | with_reducible refine Ftw.w_isTtt ?_
  | with_reducible refine Ftw.w_isTft ?_
  | with_reducible refine Ftw.w_isTtf ?_
  | with_reducible refine Ftw.w_isNS ?_
  | with_reducible refine Ftw.w_isNB ?_
  | ((with_reducible refine' Ftw.w_isiRS ?hq ?_); (case hq => assumption))
  | ((with_reducible refine' Ftw.w_isiRT ?hq ?_); (case hq => assumption))
  | ((with_reducible refine' Ftw.w_isiRI ?hq ?_); (case hq => assumption))
  | with_reducible refine Ftw.w_isiIT ?_
  | with_reducible refine Ftw.w_isiII ?_
  | with_reducible refine Dq.w_notNR ?_
  | with_reducible refine Dq.w_isNR ?_
  | with_reducible refine Dq.w_notNI ?_
  | with_reducible refine Dq.w_isNI ?_
  | with_reducible refine L2.w_neOs ?_
  | with_reducible refine w_ipI ?_
  | with_reducible refine w_eqS ?_
  | with_reducible refine w_neS ?_
  | with_reducible refine w_eqI ?_
  | with_reducible refine w_neI ?_
  | with_reducible refine w_eqB ?_
  | with_reducible refine w_neB ?_
  | ((with_reducible refine w_eq ?hs ?_); (case hs => rfl))
  | ((with_reducible refine w_ne ?hs ?_); (case hs => rfl))
  | with_reducible refine w_fld ?_
  | with_reducible refine w_bm ?_
  | with_reducible refine w_bm0 ?_
  | with_reducible refine w_sl ?_
  | with_reducible refine w_part ?_
  | with_reducible refine w_partI ?_
  | with_reducible refine w_nopart ?_
  | ((with_reducible refine' w_ixL ?hh ?ha ?_); (case hh => first | assumption | exact upd_same); (case ha => rfl))
  | ((with_reducible refine' w_setLu ?ha ?_); (case ha => rfl))
  | ((with_reducible refine' w_setL ?hh ?ha ?_); (case hh => first | assumption | exact upd_same); (case ha => rfl))
  | with_reducible refine w_iteT ?_
  | with_reducible refine w_iteF ?_
  | with_reducible refine w_lst ?_
  | with_reducible refine w_tup ?_
  | ((with_reducible refine w_new ?hz ?_); (case hz => rfl))
  | with_reducible refine w_lc ?_
  | with_reducible refine w_iL ?_
  | with_reducible refine w_iT ?_
  | with_reducible refine w_iR1 ?_
  | with_reducible refine w_iR2 ?_
  | with_reducible refine w_yes ?_
  | with_reducible refine w_iStr ?_
  | with_reducible exact tyS
  | with_reducible refine And.intro tyS ?_
  | ((with_reducible refine w_find3 ?_); (first | rw [find3_one] | rw [starts3] | skip))
  | ((with_reducible refine w_2s ?_); (try rw [find_one]))
  | ((with_reducible refine w_inS ?_); rw [S_list])
  | ((with_reducible refine w_lenS ?hz ?_); (case hz => first | assumption | omega | decide); rw [SX.S_len])
  | ((with_reducible refine w_addS ?hz ?_); (case hz => first | assumption | omega | decide); rw [vS_cat])
  | with_reducible refine w_mk ?_
  | with_reducible refine w_me ?_
  | with_reducible refine w_sfld ?_
  | ((with_reducible refine' w_gtup ?hh ?hn ?_); (case hh => first | assumption | exact upd_same); (case hn => rfl))
  | with_reducible refine w_gcons ?_
  | with_reducible refine w_gnil ?_
  | with_reducible refine w_repl ?_
  | with_reducible refine w_star ?_
  | with_reducible refine w_revL ?_
  | with_reducible refine w_isiS ?_
  | with_reducible refine w_isiI ?_
  | with_reducible refine w_isiN ?_
  | with_reducible refine w_chain ?_
  | with_reducible refine w_iEnumT ?_
  | with_reducible refine w_iZip3 ?_
  | with_reducible refine w_iZip ?_
  | with_reducible refine w_lenR3 ?_
  | with_reducible refine w_x1i ?_
  | with_reducible refine w_x1b ?_
  | with_reducible refine w_x1s ?_
  | with_reducible refine w_int1i ?_
  | with_reducible refine w_int1b ?_
  | ((with_reducible refine w_mod ?hc ?_); (case hc => omega))
  | ((with_reducible refine w_fdivW ?hc ?hd ?_); (case hc => omega); (case hd => omega))
  | ((with_reducible refine w_mul ?hc ?_); (case hc => first | exact Or.inr ⟨by decide, by decide⟩ | exact Or.inl ⟨by decide, by decide⟩))
  | ((with_reducible refine w_pow ?hc ?_); (case hc => exact ⟨by decide, by decide, by decide⟩)))
local macro_rules | `(tactic| walk_at "f1") => `(tactic| first
  | ((with_reducible refine' K24.g_rows ?hW ?hK ?hs ?hx ?_); (case hW => assumption); (case hK => rfl); (case hs => rfl); (case hx => first | assumption | exact upd_same))
  | ((with_reducible refine' K24.g_kept ?hW ?hK ?hs ?hx ?_); (case hW => assumption); (case hK => rfl); (case hs => rfl); (case hx => first | assumption | exact upd_same))
  | ((with_reducible refine' K24.g_origin ?hW ?hK ?hs ?hx ?_); (case hW => assumption); (case hK => rfl); (case hs => rfl); (case hx => first | assumption | exact upd_same))
  | ((with_reducible refine' K24.g_equals ?hW ?hK ?hs ?hx ?_); (case hW => assumption); (case hK => rfl); (case hs => rfl); (case hx => first | assumption | exact upd_same))
  | ((with_reducible refine' K24.g_low ?hW ?hK ?hs ?hx ?_); (case hW => assumption); (case hK => rfl); (case hs => rfl); (case hx => first | assumption | exact upd_same))
  | ((with_reducible refine' K24.g_high ?hW ?hK ?hs ?hx ?_); (case hW => assumption); (case hK => rfl); (case hs => rfl); (case hx => first | assumption | exact upd_same))
  | walk_at "e1")
local macro_rules | `(tactic| walk_at "s1") => `(tactic| first
  | with_reducible refine w_seq ?_
  | with_reducible refine w_asg ?_
  | with_reducible refine w_ret ?_
  | with_reducible refine w_par ?_
  | with_reducible refine w_drop ?_
  | with_reducible refine w_next ?_
  | with_reducible refine w_ifs ?_
  | ((with_reducible refine' w_aug ?hv ?_); (case hv => rfl))
  | with_reducible refine w_for ?_
  | walk_at "f1")
local macro_rules | `(tactic| walk_at "e") => `(tactic| repeat walk_at "e1")
local macro_rules | `(tactic| walk_at "g") => `(tactic| repeat walk_at "s1")
local macro_rules | `(tactic| walk_at "n1") => `(tactic| ((fail_if_success (with_reducible refine w_if ?_)); walk_at "s1"))
local macro_rules | `(tactic| walk_at "n") => `(tactic| repeat walk_at "n1")
local macro_rules | `(tactic| walk_at "p1") => `(tactic| ((fail_if_success (with_reducible refine w_ifs ?_)); walk_at "s1"))
local macro_rules | `(tactic| walk_at "p") => `(tactic| repeat walk_at "p1")
local macro_rules | `(tactic| walk_at "q1") => `(tactic| ((fail_if_success (with_reducible refine w_seq ?_)); walk_at "s1"))
local macro_rules | `(tactic| walk_at "q") => `(tactic| repeat walk_at "q1")

namespace K24
open Dc Gk M24 M5
def stepK (pre : List Int) (s : List Int × Option (List Int)) (b : Sg × RV) : List Int × Option (List Int) := if isLow b.1 = true then ((kend pre b.1 b.2).getD [], s.2) else (s.1, kend pre b.1 b.2)
def finK (s : List Int × Option (List Int)) : Option (List Int × Option (List Int)) := match s.2 with
  | none => some (s.1, none)
  | some h => if (!HT.lexLt s.1 h) = true then none else some (s.1, some h)
def bds (B : Bd) : List (Sg × RV) := B.2.1.toList ++ B.2.2.toList
theorem kr_null1 {B : Bd} {v : RV} (hv : v ∈ B.1) (h : v = .non) : krange B = none := by
  unfold krange
  rw [if_pos (List.any_eq_true.mpr ⟨v, hv, decide_eq_true h⟩)]
theorem kr_null2 {B : Bd} {b : Sg × RV} (hb : b ∈ bds B) (h : b.2 = .non) : krange B = none := by
  obtain ⟨es, lo, hi⟩ := B
  unfold krange
  by_cases c1 : (es.any fun v => decide (v = .non)) = true
  · rw [if_pos c1]
  rw [if_neg c1]
  by_cases c2 : nullB lo = true
  · rw [if_pos c2]
  rw [if_neg c2]
  have c3 : nullB hi = true := by
    rcases List.mem_append.mp hb with hb | hb
    · exfalso
      rcases lo with _ | b'
      · cases hb
      · have e : b = b' := List.mem_singleton.mp hb
        subst e
        exact c2 (decide_eq_true h)
    · rcases hi with _ | b'
      · cases hb
      · have e : b = b' := List.mem_singleton.mp hb
        subst e
        exact decide_eq_true h
  rw [if_pos c3]
theorem kr_fold {B : Bd} (h1 : ∀ v ∈ B.1, v ≠ .non) (h2 : ∀ b ∈ bds B, b.2 ≠ .non) (hl : ∀ b, B.2.1 = some b → isLow b.1 = true) (hh : ∀ b, B.2.2 = some b → isLow b.1 = false) :
    krange B = finK ((bds B).foldl (stepK (keyR B.1)) (keyR B.1, upper (keyR B.1))) := by
  obtain ⟨es, lo, hi⟩ := B
  obtain ⟨x, hx⟩ := low_pre (keyR es) lo
  have e : (bds (es, lo, hi)).foldl (stepK (keyR es)) (keyR es, upper (keyR es)) = ((lowOf (keyR es) lo).getD [], highOf (keyR es) hi) := by
    rcases lo with _ | ⟨g, v⟩ <;> rcases hi with _ | ⟨g', v'⟩
    · rfl
    · have a : isLow g' = false := hh _ rfl
      simp [bds, stepK, a, lowOf, highOf]
    · have a : isLow g = true := hl _ rfl
      simp [bds, stepK, a, lowOf, highOf]
    · have a : isLow g' = false := hh _ rfl
      have b : isLow g = true := hl _ rfl
      simp [bds, stepK, a, b, lowOf, highOf]
  rw [e, hx]
  have n1 : (es.any fun v => decide (v = .non)) = false := by
    rw [List.any_eq_false]
    intro v hv
    simpa using h1 v hv
  have n2 : nullB lo = false := by
    rcases lo with _ | b
    · rfl
    · exact decide_eq_false (h2 b (List.mem_append_left _ (List.mem_singleton.mpr rfl)))
  have n3 : nullB hi = false := by
    rcases hi with _ | b
    · rfl
    · exact decide_eq_false (h2 b (List.mem_append_right _ (List.mem_singleton.mpr rfl)))
  unfold krange finK
  simp only [n1, n2, n3, hx, Bool.false_eq_true, if_false]
  cases highOf (keyR es) hi <;> rfl
def HiO (K : PySem.W.Frag) (H : Hp) (v : V) : Option (List Int) → Prop
  | none => v = .non
  | some d => ∃ a, v = .ref a ∧ SqT K H a (d.map V.int)
theorem HiO.tk {K : PySem.W.Frag} {H H' : Hp} {v : V} {o : Option (List Int)} (h : HiO K H v o) (t : Tk H H') : HiO K H' v o := by
  cases o with
  | none => exact h
  | some d => obtain ⟨a, h1, h2⟩ := h; exact ⟨a, h1, sqT_tk h2 t⟩
theorem EvA.tk {K : PySem.W.Frag} {ad : Ad} {H H' : Hp} {e : Addr} {m : Nat} (h : EvA K ad H e m) (t : Tk H H') : EvA K ad H' e m := by
  obtain ⟨dx, r, kd, xs, h1, h2, h3⟩ := h
  exact ⟨dx, r, kd, xs, ins_tk h1 t, sqT_tk h2 t, h3⟩
/-- bounds of a kind that asked_of gives -/
structure BdOk (B : Bd) : Prop where
  eqs : ∀ v ∈ B.1, okv v
  len : B.1.length ≤ 10
  lo : ∀ b, B.2.1 = some b → isLow b.1 = true ∧ okv b.2
  hi : ∀ b, B.2.2 = some b → isHigh b.1 = true ∧ okv b.2
def spKR (ad : Ad) (K : PySem.W.Frag) : Sp := fun vs H Q _ => ∃ (b e : Addr) (B : Bd) (m : Nat), vs = [.ref b, .ref e] ∧ BoO ad H b B ∧ EvA K ad H e m ∧ m ≤ 99 ∧ BdOk B ∧ match krange B with
  | none => ∀ H', Same H H' → Q .non H'
  | some (l, h) => ∀ p la hv H', Same H H' → H' p = some (.tup [.ref la, hv]) → SqT K H' la (l.map V.int) → HiO K H' hv h → Q (.ref p) H'
theorem high_low {g : Sg} (h : isHigh g = true) : isLow g = false := by cases g <;> first | rfl | (exact absurd h (by decide))
theorem w_seqRest {a b : TS} {D : Ends} {σ : L2.St} {H : Hp} (I : L2.St → Hp → Prop) (h1 : ∀ N : L2.St → Hp → Prop, (∀ σ' H', I σ' H' → N σ' H') → a { D with nx := N } σ H) (h2 : ∀ σ' H', I σ' H' → b D σ' H') : tSeq a b D σ H := h1 (b D) h2
theorem bd_list {H : Hp} {l h : V} {lo hi : Option (Sg × RV)} (h1 : BdO H l lo) (h2 : BdO H h hi) : ∃ ks : List (Addr × Addr × Sg × RV), [l, h].filter (fun v => !decide (v = V.non)) = ks.map (fun k => V.ref k.1) ∧ (∀ k ∈ ks, HrO H k) ∧ ks.map (·.2.2) = lo.toList ++ hi.toList := by
  rcases lo with _ | ⟨g1, r1⟩ <;> rcases hi with _ | ⟨g2, r2⟩
  · have e1 : l = .non := h1
    have e2 : h = .non := h2
    subst e1 e2
    exact ⟨[], rfl, fun k hk => (by cases hk), rfl⟩
  · have e1 : l = .non := h1
    subst e1
    obtain ⟨z, a, rfl, h3, h4⟩ := h2
    exact ⟨[(z, a, g2, r2)], rfl, fun k hk => by rw [List.mem_singleton.mp hk]; exact ⟨h3, h4⟩, rfl⟩
  · have e2 : h = .non := h2
    subst e2
    obtain ⟨z, a, rfl, h3, h4⟩ := h1
    exact ⟨[(z, a, g1, r1)], rfl, fun k hk => by rw [List.mem_singleton.mp hk]; exact ⟨h3, h4⟩, rfl⟩
  · obtain ⟨z, a, rfl, h3, h4⟩ := h1
    obtain ⟨z2, a2, rfl, h5, h6⟩ := h2
    exact ⟨[(z, a, g1, r1), (z2, a2, g2, r2)], rfl, fun k hk => by
      rcases List.mem_cons.mp hk with rfl | hk
      · exact ⟨h3, h4⟩
      · rw [List.mem_singleton.mp hk]; exact ⟨h5, h6⟩, rfl⟩
section
variable {P : Program} {w : World} {K : PySem.W.Frag} {mg : Str → Option Value} {base : Heap} {ad : Ad}
theorem ok_key_range (n : Nat) (W : Ws K mg ad) (hn : 2 * n + 4 ≤ 13) (c_Evaluator_within : Me P w K mg base 3 ad.E "within" (spWith ad K)) (c_value : Me P w K mg base (2 * n + 4) ad.E "value_of" (spVal ad n)) (c_key_of_value : Cl P w K mg base 2 "key_of_value" spKV) (c_upper_key : Cl P w K mg base 1 "upper_key" (spUp K)) :
    Cl P w K mg base 14 "key_range" (spKR ad K) := by
  obtain ⟨c_Evaluator_value_of⟩ : Nonempty (PLift (Me P w K mg base 13 ad.E "value_of" (spVal ad n))) := by
    obtain ⟨f, fd, ps, h1, h2, F, b⟩ := c_value.ex
    exact ⟨⟨⟨f, fd, ps, h1, h2, F.mono hn, b⟩⟩⟩
  replace c_Evaluator_value_of := c_Evaluator_value_of.down
  refine cl_mk W.d_key_range sc_key_range (fun _ _ _ _ _ _ us hl => match us, hl with | [_, _], _ => rfl) (fun vs H Q E h => ?_) (fun f cdv A outer s H vs Q E hr h => ?_)
  · obtain ⟨b, e, B, m, rfl, _⟩ := h; rfl
  obtain ⟨b, e, B, m, rfl, bo, ev, hm, okB, q⟩ := h
  refine ⟨_, (pss_cons (ps_set (i := 2) sc_key_range.nd rfl (Or.inl rfl) (pe_me c_Evaluator_within hr (by first | decide | omega) passL (pv 1) (pa_cons (pe_tup pa_nil) pa_nil)))
    (pss_cons (ps_set (i := 3) sc_key_range.nd rfl (Or.inl rfl) (pe_tup pa_nil))
    (pss_cons (ps_for (passes_of rfl) rfl (pi_tup (pe_fld (pv 0) rfl)) (pg_name (i := 4) sc_key_range.nd rfl (Or.inl rfl))
    (pss_cons (ps_set (i := 5) sc_key_range.nd rfl (Or.inl rfl) (pe_me c_Evaluator_value_of hr (by first | decide | omega) passL (pv 2) (pa_cons (pv 4) pa_nil)))
    (pss_cons (ps_if (pt_cmpR op_isN1 (pv 5) pe_non (nomark _))
    (pss_one (ps_ret pe_non))
    pss_nil)
    (pss_one (ps_set (i := 3) sc_key_range.nd rfl (Or.inl rfl) (pe_tup (StX.pa_star (pv 3) (StX.pa_star (pe_cl c_key_of_value hr (by first | decide | omega) rfl passL (pa_cons (pv 5) pa_nil)) pa_nil))))))))
    (pss_cons (ps_par (i := 6) (j := 7) (by rfl) sc_key_range.nd rfl rfl (by decide) rfl rfl (pa_cons (pv 3) (pa_cons (pe_cl c_upper_key hr (by first | decide | omega) rfl passL (pa_cons (pv 3) pa_nil)) pa_nil)) (by rfl))
    (pss_cons (ps_for (passes_of rfl) rfl (pi_list (pe_lc (own := [("bound", 9)]) rfl sc_key_range.nd (pi_tup (pe_tup (pa_cons (pe_fld (pv 0) rfl) (pa_cons (pe_fld (pv 0) rfl) pa_nil)))) (blkOk_by (own := [("bound", 9)]) (N := ["bounds", "evaluator", "here", "prefix", "tree", "value", "low", "high", "sign", "bound", "key"]) (sc := defScope s_key_range) (by decide +kernel)) (fun _ _ _ _ _ => (pg_name (i := 9) sc_key_range.nd rfl (by first | exact Or.inl rfl | exact Or.inr rfl))) (fun _ _ _ _ _ => (pts_one (pt_cmpR op_notN1 (pv 9) pe_non (nomark _)))) (fun _ _ _ _ _ => (pv 9)))) (pg_tup rfl (pgs_cons (pg_name (i := 8) sc_key_range.nd rfl (Or.inl rfl)) (pgs_cons (pg_name (i := 4) sc_key_range.nd rfl (Or.inl rfl)) pgs_nil)))
    (pss_cons (ps_set (i := 5) sc_key_range.nd rfl (Or.inl rfl) (pe_me c_Evaluator_value_of hr (by first | decide | omega) passL (pv 2) (pa_cons (pv 4) pa_nil)))
    (pss_cons (ps_if (pt_cmpR op_isN1 (pv 5) pe_non (nomark _))
    (pss_one (ps_ret pe_non))
    pss_nil)
    (pss_cons (ps_set (i := 10) sc_key_range.nd rfl (Or.inl rfl) (pe_tup (StX.pa_star (pv 3) (StX.pa_star (pe_cl c_key_of_value hr (by first | decide | omega) rfl passL (pa_cons (pv 5) pa_nil)) pa_nil))))
    (pss_cons (ps_if (pt_cmpR op_in_seq (pv 8) (pe_tup (pa_cons pe_str (pa_cons pe_str pa_nil))) (by with_unfolding_all rfl))
    (pss_one (ps_set (i := 10) sc_key_range.nd rfl (Or.inl rfl) (pe_cl c_upper_key hr (by first | decide | omega) rfl passL (pa_cons (pv 10) pa_nil))))
    pss_nil)
    (pss_one (ps_if (pt_cmpR op_in_seq (pv 8) (C8.pe_gc rfl W.c_LOW_SIGNS) (by with_unfolding_all rfl))
    (pss_one (ps_set (i := 6) sc_key_range.nd rfl (Or.inl rfl) (pv 10)))
    (pss_one (ps_set (i := 7) sc_key_range.nd rfl (Or.inl rfl) (pv 10))))))))))
    (pss_cons (ps_if (PW.pt (pw_and (pt_cmpR op_notN1 (pv 7) pe_non (nomark _)) (pw_and1 (pt_cmpR (Fge.op_geT (hu64 hr)) (pv 6) (pv 7) (nomark _)))))
    (pss_one (ps_ret pe_non))
    pss_nil)
    (pss_one (ps_ret (pe_tup (pa_cons (pv 6) (pa_cons (pv 7) pa_nil))))))))))), ?_⟩
  walk_at "g"
  refine ev_at ev no_within ?_
  walk_at "g"
  intro T hT
  have s1 := same_new hT (.tup [])
  refine ⟨e, T, m, [], rfl, ev.tk (Tk.of s1), by omega, upd_same, fun x H2 s2 hx => ?_⟩
  have s12 := s1.trans s2
  have bo2 := bo.tk (Tk.of s12)
  clear s1 s2 bo ev hT
  walk_at "g"
  intro p0 hp0
  have s3 := same_new hp0 (.tup [])
  have e0 : (upd H2 p0 (.tup [])) p0 = some (.tup []) := upd_same
  have bo3 := bo2.tk (Tk.of s3)
  have hx3 := hx.tk (Tk.of s3)
  have s13 := s12.trans s3
  generalize upd H2 p0 (.tup []) = H3 at s3 e0 bo3 hx3 s13
  clear bo2 hx s12 s3 hp0
  obtain ⟨dx, qa, as, l, hv, h1, h2, h3, h4, h5, h6⟩ := bo3
  have okA : ∀ r ∈ as, okv r.2 := fun r hr => okB.eqs r.2 (by rw [← h4]; exact List.mem_map.mpr ⟨r, hr, rfl⟩)
  have las : as.length ≤ 10 := by rw [← List.length_map (as := as) (f := (·.2)), h4]; exact okB.len
  walk_at "g"
  refine w_forT (SqT.of h2) (fun i σ H' => Same H3 H' ∧ (∃ (pa : Addr) (v4 v5 : Option V), σ = [some (.ref b), some (.ref e), some (.ref x), some (.ref pa), v4, v5, none, none, none, none, none] ∧ SqT K H' pa ((keyR ((as.take i).map (·.2))).map V.int)) ∧ ∀ r ∈ as.take i, r.2 ≠ .non)
    ⟨fun _ _ h => h, ⟨p0, none, none, rfl, SqT.of e0⟩, fun r hr => (by cases hr)⟩ (fun i σ H' _ h => SqT.of (h.1 _ _ h2)) ?_ ?_
  · rintro i y σ H' hi ⟨sH, ⟨pa, v4, v5, rfl, hpa⟩, nn⟩
    obtain ⟨r, hr2, rfl⟩ := map_get hi
    have rin := List.mem_of_getElem? hr2
    have hev := hx3.tk (Tk.of sH)
    walk_at "g"
    refine hev.at no_value ?_
    walk_at "g"
    refine ⟨x, r.1, m, [], vV r.2, rfl, hev, .lit ((h3 r rin).tk (Tk.of sH)), ?_⟩
    walk_at "g"
    refine w_isNV ?_
    walk_at "g"
    refine w_iteD (fun c => ?_) (fun c => ?_)
    · rw [kr_null1 (B := B) (v := r.2) (by rw [← h4]; exact List.mem_map.mpr ⟨r, rin, rfl⟩) c] at q
      have q2 : ∀ H', Same H H' → Q .non H' := q
      walk_at "g"
      exact q2 _ (s13.trans sH)
    · walk_at "g"
      refine ⟨pa, _, rfl, .inl hpa, ?_⟩
      walk_at "g"
      refine ⟨r.2, rfl, okA r rin, fun p H5 s5 fp ep => ?_⟩
      refine ⟨p, _, rfl, .inl (SqT.of ep), ?_⟩
      have hl1 := keyR_len (r := (as.take i).map (·.2)) fun v hv => by
        obtain ⟨r', h7, rfl⟩ := List.mem_map.mp hv
        exact okA r' (List.mem_of_mem_take h7)
      have hl2 := (keyV_len (okA r rin)).1
      have hi3 := (List.getElem?_eq_some_iff.mp hr2).1
      rw [List.length_map, List.length_take] at hl1
      walk_at "g"
      refine ⟨?_, fun y hy => ?_⟩
      · simp only [List.length_append, List.length_map, List.append_nil]
        exact Nat.le_trans (by omega : _ ≤ 140) (by decide)
      refine ⟨sH.trans (s5.trans (same_new hy _)), ⟨y, _, _, rfl, SqT.of ?_⟩, fun r' hr' => ?_⟩
      · rw [upd_same, List.take_add_one, hr2, List.map_append]
        show some (HO.tup _) = some (HO.tup (List.map V.int (keyR ((as.take i).map (·.2) ++ [r.2]))))
        rw [keyR_app, List.map_append, List.append_nil]
        simp [keyR]
      · rw [List.take_add_one, hr2] at hr'
        rcases List.mem_append.mp hr' with hr' | hr'
        · exact nn r' hr'
        · have e7 : r' = r := by simpa using hr'
          rw [e7]; exact c
  · rintro σ H4 ⟨sH, ⟨pa, v4, v5, rfl, hpa⟩, nn⟩
    rw [List.length_map, List.take_length] at hpa nn
    rw [h4] at hpa
    have n1 : ∀ v ∈ B.1, v ≠ .non := fun v hv => by
      rw [← h4] at hv
      obtain ⟨r, hr, rfl⟩ := List.mem_map.mp hv
      exact nn r hr
    have s14 := s13.trans sH
    have hx4 := hx3.tk (Tk.of sH)
    have h14 := ins_tk h1 (Tk.of sH)
    have h54 := h5.tk (Tk.of sH)
    have h64 := h6.tk (Tk.of sH)
    have lpre := keyR_len okB.eqs
    have lB := okB.len
    clear sH hx3 h1 h2 h3 h5 h6 e0 s13 nn
    with_reducible refine w_seqRest (fun σ' H5 => Same H4 H5 ∧ ∃ hi, σ' = [some (.ref b), some (.ref e), some (.ref x), some (.ref pa), v4, v5, some (.ref pa), some hi, none, none, none] ∧ HiO K H5 hi (upper (keyR B.1))) (fun N hN => ?_) ?_
    · walk_at "g"
      refine ⟨pa, _, rfl, hpa, by omega, ?_⟩
      cases hu : upper (keyR B.1) with
      | none =>
        walk_at "g"
        exact ⟨_, _, rfl, hN _ _ ⟨fun _ _ h => h, .non, rfl, by rw [hu]; rfl⟩⟩
      | some u =>
        intro ua H5 s5 _ eu
        walk_at "g"
        exact ⟨_, _, rfl, hN _ _ ⟨s5, .ref ua, rfl, by rw [hu]; exact ⟨ua, rfl, SqT.of eu⟩⟩⟩
    rintro σ' H5 ⟨s45, hi0, rfl, hhi⟩
    have s15 := s14.trans s45
    have hx5 := hx4.tk (Tk.of s45)
    have h15 := ins_tk h14 (Tk.of s45)
    have h55 := h54.tk (Tk.of s45)
    have h65 := h64.tk (Tk.of s45)
    have hpa5 := sqT_same hpa s45
    clear s14 s45 hx4 h14 h54 h64 hpa
    walk_at "g"
    intro T2 hT2
    have s6 := same_new hT2 (.tup [l, hv])
    have eT2 : (upd H5 T2 (.tup [l, hv])) T2 = some (.tup [l, hv]) := upd_same
    have s16 := s15.trans s6
    have hx6 := hx5.tk (Tk.of s6)
    have h56 := h55.tk (Tk.of s6)
    have h66 := h65.tk (Tk.of s6)
    have hpa6 := sqT_same hpa5 s6
    have hhi6 := hhi.tk (Tk.of s6)
    generalize upd H5 T2 (.tup [l, hv]) = H6 at s6 eT2 s16 hx6 h56 h66 hpa6 hhi6
    clear s15 s6 hx5 h15 h55 h65 hpa5 hhi hT2
    refine w_lcTn (SqT.of eT2) fun D hD => ⟨fun j H7 => Same H6 H7 ∧ H7 D = some (.lst (([l, hv].take j).filter fun v => !decide (v = V.non))), ⟨same_new hD _, upd_same⟩, fun j H7 _ h => SqT.of (h.1 _ _ eT2), ?_, ?_⟩
    · rintro j y H7 hj ⟨s7, eD⟩
      have lj : (([l, hv].take j).filter fun v => !decide (v = V.non)).length ≤ 2 := Nat.le_trans (List.length_filter_le _ _) (by rw [List.length_take]; exact Nat.min_le_right _ _)
      walk_at "g"
      refine ⟨rfl, ?_⟩
      walk_at "g"
      refine ⟨rfl, ?_⟩
      walk_at "g"
      refine w_iteN (fun c => ?_) (fun c => ?_)
      · walk_at "g"
        refine ⟨_, eD, Nat.lt_of_le_of_lt lj (by decide), same_upd s7 hD, ?_⟩
        rw [upd_same, List.take_add_one, hj, List.filter_append]
        simp [c]
      · refine ⟨s7, ?_⟩
        rw [List.take_add_one, hj, List.filter_append]
        simpa [c] using eD
    · rintro H7 ⟨s7, eD⟩
      rw [List.take_of_length_le (by exact Nat.le_refl _)] at eD
      have s17 := s16.trans s7
      have hx7 := hx6.tk (Tk.of s7)
      obtain ⟨ks, ek, hks, eb⟩ := bd_list (h56.tk (Tk.of s7)) (h66.tk (Tk.of s7))
      rw [ek] at eD
      have eb2 : ks.map (·.2.2) = bds B := eb
      have hpa7 := sqT_same hpa6 s7
      have hhi7 := hhi6.tk (Tk.of s7)
      clear s16 s7 hx6 h56 h66 hpa6 hhi6 eT2 hD ek eb
      refine w_forL (SqL.of eD) (fun i σ H' => Same H7 H' ∧ (∃ (v4 v5 : Option V) (la : Addr) (hi : V) (v8 v9 v10 : Option V), σ = [some (.ref b), some (.ref e), some (.ref x), some (.ref pa), v4, v5, some (.ref la), some hi, v8, v9, v10] ∧ SqT K H' la ((((bds B).take i).foldl (stepK (keyR B.1)) (keyR B.1, upper (keyR B.1))).1.map V.int) ∧ HiO K H' hi (((bds B).take i).foldl (stepK (keyR B.1)) (keyR B.1, upper (keyR B.1))).2) ∧ ∀ r ∈ (bds B).take i, r.2 ≠ .non)
        ⟨fun _ _ h => h, ⟨v4, v5, pa, hi0, _, _, _, rfl, hpa7, hhi7⟩, fun r hr => (by cases hr)⟩ (fun i σ H' _ h => SqL.of (h.1 _ _ eD)) ?_ ?_
      · rintro i y σ H8 hi ⟨s8, ⟨w4, w5, la, hi8, v8, v9, v10, rfl, hla, hhi8⟩, nn⟩
        obtain ⟨k, hk2, rfl⟩ := map_get hi
        have kin := List.mem_of_getElem? hk2
        have hk := (hks k kin).tk (Tk.of s8)
        have ek1 := hk.1
        have hev := hx7.tk (Tk.of s8)
        have hbi : (bds B)[i]? = some k.2.2 := by rw [← eb2, List.getElem?_map, hk2]; rfl
        have bin : k.2.2 ∈ bds B := List.mem_of_getElem? hbi
        have hsg : okv k.2.2.2 ∧ (isLow k.2.2.1 = true ∨ isLow k.2.2.1 = false) := by
          rcases List.mem_append.mp bin with hb | hb
          · obtain ⟨a1, a2⟩ := okB.lo _ (Option.mem_toList.mp hb)
            exact ⟨a2, .inl a1⟩
          · obtain ⟨a1, a2⟩ := okB.hi _ (Option.mem_toList.mp hb)
            exact ⟨a2, .inr (high_low a1)⟩
        walk_at "g"
        refine hev.at no_value ?_
        walk_at "g"
        refine ⟨x, k.2.1, m, [], vV k.2.2.2, rfl, hev, .lit hk.2, ?_⟩
        walk_at "g"
        refine w_isNV ?_
        walk_at "g"
        refine w_iteD (fun c => ?_) (fun c => ?_)
        · rw [kr_null2 bin c] at q
          have q2 : ∀ H', Same H H' → Q .non H' := q
          walk_at "g"
          exact q2 _ (s17.trans s8)
        walk_at "p"
        refine ⟨pa, _, rfl, .inl (sqT_same hpa7 s8), ?_⟩
        walk_at "p"
        refine ⟨k.2.2.2, rfl, hsg.1, fun p H9 s9 fp ep => ?_⟩
        refine ⟨p, _, rfl, .inl (SqT.of ep), ?_⟩
        have hl2 := (keyV_len hsg.1).1
        walk_at "p"
        refine ⟨?_, fun y hy => ?_⟩
        · simp only [List.length_append, List.length_map, List.append_nil]
          exact Nat.le_trans (by omega : _ ≤ 140) (by decide)
        have s10 := s9.trans (same_new hy (.tup (List.map V.int (keyR B.1) ++ (List.map V.int (keyV k.2.2.2) ++ []))))
        have ey : (upd H9 y (.tup (List.map V.int (keyR B.1) ++ (List.map V.int (keyV k.2.2.2) ++ [])))) y = some (.tup ((keyR B.1 ++ keyV k.2.2.2).map V.int)) := by rw [upd_same, List.append_nil, List.map_append]
        generalize upd H9 y (.tup (List.map V.int (keyR B.1) ++ (List.map V.int (keyV k.2.2.2) ++ []))) = H10 at s10 ey
        have s810 := s8.trans s10
        have hla10 := sqT_same hla s10
        have hhi10 := hhi8.tk (Tk.of s10)
        clear s9 fp ep hla hhi8 hev hk ek1 hy
        obtain ⟨xx, hke⟩ := kend_pre (keyR B.1) k.2.2.1 k.2.2.2
        walk_at "p"
        refine Gk.w_ifRest (fun σ' H11 => Same H10 H11 ∧ ∃ ka : Addr, σ' = [some (.ref b), some (.ref e), some (.ref x), some (.ref pa), some (.ref k.2.1), some (vV k.2.2.2), some (.ref la), some hi8, some (.str (sgS k.2.2.1)), v9, some (.ref ka)] ∧ SqT K H11 ka ((keyR B.1 ++ xx).map V.int)) (fun N hN => ?_) ?_
        · walk_at "g"
          intro z hz
          have s11 := same_new hz (.tup [.str (Str.ofString ">"), .str (Str.ofString "<=")])
          refine ⟨z, [.str (Str.ofString ">"), .str (Str.ofString "<=")], rfl, .inr (SqT.of upd_same), rfl, rfl, ?_⟩
          rw [if_neg (by decide), show inV (.str (sgS k.2.2.1)) [.str (Str.ofString ">"), .str (Str.ofString "<=")] = decide (k.2.2.1 ∈ [Sg.gt, Sg.le]) from inV_sg _ [.gt, .le]]
          have ey11 := s11 _ _ ey
          generalize upd H10 z (.tup [.str (Str.ofString ">"), .str (Str.ofString "<=")]) = H11 at s11 ey11
          walk_at "g"
          refine w_iteD (fun c => ?_) (fun c => ?_)
          · have c2 : k.2.2.1 = .gt ∨ k.2.2.1 = .le := by simpa using c
            rw [kend, if_pos c2] at hke
            walk_at "g"
            refine ⟨y, _, rfl, SqT.of ey11, by rw [List.length_append]; omega, ?_⟩
            rw [hke]
            intro ua H12 s12 _ eu
            walk_at "g"
            exact hN _ _ ⟨s11.trans s12, ua, rfl, SqT.of eu⟩
          · have c2 : ¬ (k.2.2.1 = .gt ∨ k.2.2.1 = .le) := fun z => c (by simpa using z)
            rw [kend, if_neg c2] at hke
            walk_at "g"
            exact hN _ _ ⟨s11, y, rfl, by rw [← Option.some.inj hke]; exact SqT.of ey11⟩
        rintro σ' H11 ⟨s11, ka, rfl, hka⟩
        have hst : ((bds B).take (i + 1)).foldl (stepK (keyR B.1)) (keyR B.1, upper (keyR B.1)) = stepK (keyR B.1) (((bds B).take i).foldl (stepK (keyR B.1)) (keyR B.1, upper (keyR B.1))) k.2.2 := by
          rw [List.take_add_one, hbi, List.foldl_append]
          rfl
        have nn2 : ∀ r ∈ (bds B).take (i + 1), r.2 ≠ .non := fun r hr => by
          rw [List.take_add_one, hbi] at hr
          rcases List.mem_append.mp hr with hr | hr
          · exact nn r hr
          · have e7 : r = k.2.2 := by simpa using hr
            rw [e7]; exact c
        walk_at "g"
        refine ⟨ad.lo, _, rfl, .inr (W.lo_t _), rfl, rfl, ?_⟩
        rw [if_neg (by decide), show inV (.str (sgS k.2.2.1)) [.str (Str.ofString ">"), .str (Str.ofString ">=")] = decide (k.2.2.1 ∈ [Sg.gt, Sg.ge]) from inV_sg _ [.gt, .ge]]
        have elow : (k.2.2.1 ∈ [Sg.gt, Sg.ge]) ↔ isLow k.2.2.1 = true := by simp [isLow]
        walk_at "g"
        refine w_iteD (fun c => ?_) (fun c => ?_)
        · walk_at "g"
          have e9 := elow.mp c
          refine ⟨s810.trans s11, ⟨_, _, ka, hi8, _, _, _, rfl, ?_, ?_⟩, nn2⟩
          · rw [hst, stepK, if_pos e9, hke]
            exact hka
          · rw [hst, stepK, if_pos e9]
            exact hhi10.tk (Tk.of s11)
        · walk_at "g"
          have e9 : ¬ isLow k.2.2.1 = true := fun z => c (elow.mpr z)
          refine ⟨s810.trans s11, ⟨_, _, la, .ref ka, _, _, _, rfl, ?_, ?_⟩, nn2⟩
          · rw [hst, stepK, if_neg e9]
            exact sqT_same hla10 s11
          · rw [hst, stepK, if_neg e9, hke]
            exact ⟨ka, rfl, hka⟩
      · rintro σ H8 ⟨s8, ⟨w4, w5, la, hi8, v8, v9, v10, rfl, hla, hhi8⟩, nn⟩
        have lk : (ks.map fun k => V.ref k.1).length = (bds B).length := by rw [← eb2, List.length_map, List.length_map]
        rw [lk, List.take_length] at hla hhi8 nn
        rw [kr_fold n1 nn (fun b' hb => (okB.lo b' hb).1) (fun b' hb => high_low (okB.hi b' hb).1)] at q
        generalize (bds B).foldl (stepK (keyR B.1)) (keyR B.1, upper (keyR B.1)) = st at hla hhi8 q
        obtain ⟨lw, hh⟩ := st
        have s18 := s17.trans s8
        cases hh with
        | none =>
          have hn8 : hi8 = .non := hhi8
          subst hn8
          have q2 : ∀ p la hv H', Same H H' → H' p = some (.tup [.ref la, hv]) → SqT K H' la (lw.map V.int) → HiO K H' hv none → Q (.ref p) H' := q
          walk_at "g"
          intro z hz
          have s9 := same_new hz (.tup [.ref la, .non])
          exact q2 z la .non _ (s18.trans s9) upd_same (sqT_same hla s9) rfl
        | some d =>
          obtain ⟨ha, rfl, hhd⟩ := hhi8
          unfold finK at q
          walk_at "g"
          refine ⟨la, ha, lw, d, rfl, rfl, hla, hhd, ?_⟩
          walk_at "g"
          refine w_ite (fun c => ?_) (fun c => ?_)
          · have q1 : match (if (!HT.lexLt lw d) = true then none else some (lw, some d) : Option (List Int × Option (List Int))) with
              | none => ∀ H', Same H H' → Q .non H'
              | some (l, h) => ∀ p la hv H', Same H H' → H' p = some (.tup [.ref la, hv]) → SqT K H' la (l.map V.int) → HiO K H' hv h → Q (.ref p) H' := q
            rw [if_pos c] at q1
            walk_at "g"
            exact q1 _ s18
          · have q1 : match (if (!HT.lexLt lw d) = true then none else some (lw, some d) : Option (List Int × Option (List Int))) with
              | none => ∀ H', Same H H' → Q .non H'
              | some (l, h) => ∀ p la hv H', Same H H' → H' p = some (.tup [.ref la, hv]) → SqT K H' la (l.map V.int) → HiO K H' hv h → Q (.ref p) H' := q
            rw [if_neg (by rw [c]; decide)] at q1
            walk_at "g"
            intro z hz
            have s9 := same_new hz (.tup [.ref la, .ref ha])
            exact q1 z la (.ref ha) _ (s18.trans s9) upd_same (sqT_same hla s9) ⟨ha, rfl, sqT_same hhd s9⟩
end
end K24
end

section
-- part K24I
set_option Elab.async false
set_option linter.all false
set_option maxRecDepth 100000
set_option maxHeartbeats 800000
open PySem PySem.Spec PyProof.Rows L2 Fw
local macro_rules | `(tactic| walk_at "e1") => `(tactic| first
  | ((with_reducible refine' w_var ?hv ?_); (case hv => rfl))
  | ((with_reducible refine' K24.w_ixA ?hh ?ha ?_); (case hh => first | assumption | exact upd_same); (case ha => rfl))
  | ((with_reducible refine' K24.w_eqLF ?hl ?_); (case hl => decide +kernel))
  | ((with_reducible refine' K24.w_eqLT ?hl ?_); (case hl => rfl))
  | ((with_reducible refine' K24.w_neLF ?hl ?_); (case hl => decide +kernel))
  | ((with_reducible refine' K24.w_neLT ?hl ?_); (case hl => rfl))
  | with_reducible refine Fw.w_notV ?_
  | with_reducible refine F24.w_iZipM ?_
  | with_reducible refine F24.w_iZipA ?_
  | with_reducible refine Fge.w_cld ?_
  | with_reducible refine w_c ?_
  | with_reducible refine w_op ?_
  | with_reducible refine w_un ?_
  | with_reducible refine w_cons ?_
  | with_reducible refine w_nil ?_
  | with_reducible refine w_cl ?_
  | with_reducible refine w_cb ?_
  | with_reducible refine w_gname ?_
  | with_reducible refine w_gsub ?_
  | with_reducible refine w_test ?_
  | with_reducible refine w_B ?_
  | with_reducible refine w_bl ?_
  | with_reducible refine w_and ?_
  | with_reducible refine w_or ?_
  | with_reducible refine w_not ?_
  | with_reducible refine w_if ?_
  | with_reducible refine w_I0 ?_
  | with_reducible refine Gk.w_rU ?_
  | with_reducible refine Dq.w_orV ?_
  | with_reducible refine Dq.w_js ?_
  | with_reducible refine Dq.w_js0 ?_
  | with_reducible refine Dq.w_fm ?_
  | with_reducible refine Dq.w_andV ?_
  | with_reducible refine Gk.w_iEnum ?_
  | with_reducible refine Dq.w_dget ?_
  | with_reducible refine Dq.w_dpop1 ?_
  | with_reducible refine Dq.w_ddel ?_
  | with_reducible refine Dq.w_din ?_
  | with_reducible refine Dq.w_dnotin ?_
  | with_reducible refine Dq.w_dget2 ?_
  | with_reducible refine Dq.w_dnew ?_
  | with_reducible refine Dq.w_fldaug ?_
  | with_reducible refine Dq.w_aSub ?_
  | with_reducible refine Dq.w_aAdd ?_
  | with_reducible refine Dq.w_mkd ?_
  | with_reducible refine Dq.w_notN0 ?_
  | with_reducible refine Dq.w_isN0 ?_
  | with_reducible refine Ftw.w_isTI ?_
  | with_reducible refine Ftw.w_isTS ?_
  | with_reducible refine Ftw.w_isTR ?_
  | with_reducible refine Ftw.w_isTN ?_
  | with_reducible refine Ftw.w_isTtt ?_
  | with_reducible refine Ftw.w_isTft ?_
  | with_reducible refine Ftw.w_isTtf ?_
  | with_reducible refine Ftw.w_isNS ?_
  | with_reducible refine Ftw.w_isNB ?_
  | ((with_reducible refine' Ftw.w_isiRS ?hq ?_); (case hq => assumption))
  | ((with_reducible refine' Ftw.w_isiRT ?hq ?_); (case hq => assumption))
  | ((with_reducible refine' Ftw.w_isiRI ?hq ?_); (case hq => assumption))
  | with_reducible refine Ftw.w_isiIT ?_
  | with_reducible refine Ftw.w_isiII ?_
  | with_reducible refine Dq.w_notNR ?_
  | with_reducible refine Dq.w_isNR ?_
  | with_reducible refine Dq.w_notNI ?_
  | with_reducible refine Dq.w_isNI ?_
  | with_reducible refine L2.w_neOs ?_
  | with_reducible refine w_ipI ?_
  | with_reducible refine w_eqS ?_
  | with_reducible refine w_neS ?_
  | with_reducible refine w_eqI ?_
  | with_reducible refine w_neI ?_
  | with_reducible refine w_eqB ?_
  | with_reducible refine w_neB ?_
  | ((with_reducible refine w_eq ?hs ?_); (case hs => rfl))
  | ((with_reducible refine w_ne ?hs ?_); (case hs => rfl))
  | with_reducible refine w_fld ?_
  | with_reducible refine w_bm ?_
  | with_reducible refine w_bm0 ?_
  | with_reducible refine w_sl ?_
  | with_reducible refine w_part ?_
  | with_reducible refine w_partI ?_
  | with_reducible refine w_nopart ?_
  | ((with_reducible refine' w_ixL ?hh ?ha ?_); (case hh => first | assumption | exact upd_same); (case ha => rfl))
  | ((with_reducible refine' w_setLu ?ha ?_); (case ha => rfl))
  | ((with_reducible refine' w_setL ?hh ?ha ?_); (case hh => first | assumption | exact upd_same); (case ha => rfl))
  | with_reducible refine w_iteT ?_
  | with_reducible refine w_iteF ?_
  | with_reducible refine w_lst ?_
  | with_reducible refine w_tup ?_
  | ((with_reducible refine w_new ?hz ?_); (case hz => rfl))
  | with_reducible refine w_lc ?_
  | with_reducible refine w_iL ?_
  | with_reducible refine w_iT ?_
  | with_reducible refine w_iR1 ?_
  | with_reducible refine w_iR2 ?_
  | with_reducible refine w_yes ?_
  | with_reducible refine w_iStr ?_
  | with_reducible exact tyS
  | with_reducible refine And.intro tyS ?_
  | ((with_reducible refine w_find3 ?_); (first | rw [find3_one] | rw [starts3] | skip))
  | ((with_reducible refine w_2s ?_); (try rw [find_one]))
  | ((with_reducible refine w_inS ?_); rw [S_list])
  | ((with_reducible refine w_lenS ?hz ?_); (case hz => first | assumption | omega | decide); rw [SX.S_len])
  | ((with_reducible refine w_addS ?hz ?_); (case hz => first | assumption | omega | decide); rw [vS_cat])
  | with_reducible refine w_mk ?_
  | with_reducible refine w_me ?_
  | with_reducible refine w_sfld ?_
  | ((with_reducible refine' w_gtup ?hh ?hn ?_); (case hh => first | assumption | exact upd_same); (case hn => rfl))
  | with_reducible refine w_gcons ?_
  | with_reducible refine w_gnil ?_
  | with_reducible refine w_repl ?_
  | with_reducible refine w_star ?_
  | with_reducible refine w_revL ?_
  | with_reducible refine w_isiS ?_
  | with_reducible refine w_isiI ?_
  | with_reducible refine w_isiN ?_
  | with_reducible refine w_chain ?_
  | with_reducible refine w_iEnumT ?_
  | with_reducible refine w_iZip3 ?_
  | with_reducible refine w_iZip ?_
  | with_reducible refine w_lenR3 ?_
  | with_reducible refine w_x1i ?_
  | with_reducible refine w_x1b ?_
  | with_reducible refine w_x1s ?_
  | with_reducible refine w_int1i ?_
  | with_reducible refine w_int1b ?_
  | ((with_reducible refine w_mod ?hc ?_); (case hc => omega))
  | ((with_reducible refine w_fdivW ?hc ?hd ?_); (case hc => omega); (case hd => omega))
  | ((with_reducible refine w_mul ?hc ?_); (case hc => first | exact Or.inr ⟨by decide, by decide⟩ | exact Or.inl ⟨by decide, by decide⟩))
  | ((with_reducible refine w_pow ?hc ?_); (case hc => exact ⟨by decide, by decide, by decide⟩)))
local macro_rules | `(tactic| walk_at "f1") => `(tactic| first
  | ((with_reducible refine' K24.g_rows ?hW ?hK ?hs ?hx ?_); (case hW => assumption); (case hK => rfl); (case hs => rfl); (case hx => first | assumption | exact upd_same))
  | ((with_reducible refine' K24.g_kept ?hW ?hK ?hs ?hx ?_); (case hW => assumption); (case hK => rfl); (case hs => rfl); (case hx => first | assumption | exact upd_same))
  | ((with_reducible refine' K24.g_origin ?hW ?hK ?hs ?hx ?_); (case hW => assumption); (case hK => rfl); (case hs => rfl); (case hx => first | assumption | exact upd_same))
  | ((with_reducible refine' K24.g_equals ?hW ?hK ?hs ?hx ?_); (case hW => assumption); (case hK => rfl); (case hs => rfl); (case hx => first | assumption | exact upd_same))
  | ((with_reducible refine' K24.g_low ?hW ?hK ?hs ?hx ?_); (case hW => assumption); (case hK => rfl); (case hs => rfl); (case hx => first | assumption | exact upd_same))
  | ((with_reducible refine' K24.g_high ?hW ?hK ?hs ?hx ?_); (case hW => assumption); (case hK => rfl); (case hs => rfl); (case hx => first | assumption | exact upd_same))
  | walk_at "e1")
local macro_rules | `(tactic| walk_at "s1") => `(tactic| first
  | with_reducible refine w_seq ?_
  | with_reducible refine w_asg ?_
  | with_reducible refine w_ret ?_
  | with_reducible refine w_par ?_
  | with_reducible refine w_drop ?_
  | with_reducible refine w_next ?_
  | with_reducible refine w_ifs ?_
  | ((with_reducible refine' w_aug ?hv ?_); (case hv => rfl))
  | with_reducible refine w_for ?_
  | walk_at "f1")
local macro_rules | `(tactic| walk_at "e") => `(tactic| repeat walk_at "e1")
local macro_rules | `(tactic| walk_at "g") => `(tactic| repeat walk_at "s1")
local macro_rules | `(tactic| walk_at "n1") => `(tactic| ((fail_if_success (with_reducible refine w_if ?_)); walk_at "s1"))
local macro_rules | `(tactic| walk_at "n") => `(tactic| repeat walk_at "n1")
local macro_rules | `(tactic| walk_at "p1") => `(tactic| ((fail_if_success (with_reducible refine w_ifs ?_)); walk_at "s1"))
local macro_rules | `(tactic| walk_at "p") => `(tactic| repeat walk_at "p1")
local macro_rules | `(tactic| walk_at "q1") => `(tactic| ((fail_if_success (with_reducible refine w_seq ?_)); walk_at "s1"))
local macro_rules | `(tactic| walk_at "q") => `(tactic| repeat walk_at "q1")

namespace K24
open Dc Gk M24 M5
def spSel (ad : Ad) : Sp := fun vs H Q _ => ∃ (b : Addr) (B : Bd) (n : Int), vs = [.ref b, .int n] ∧ BoO ad H b B ∧ 0 ≤ n ∧ ∀ r H', Same H H' → 0 ≤ r → r ≤ n + 3 → (opn B = true → r = n) → Q (.int r) H'
def spPL : Sp := fun vs H Q _ => ∃ (t : Addr) (c : Cd) (n : Int), vs = [.ref t, .int n] ∧ CdO H t c ∧ 0 ≤ n ∧ ∀ r, 0 ≤ r → Q (.int r) H
def spEP : Sp := fun vs H Q _ => ∃ n : Int, vs = [.non, .int n] ∧ Q (.int n) H
def spIP (K : PySem.W.Frag) (ad : Ad) : Sp := fun vs H Q _ => ∃ (a : Addr) (z : Str) (rest : List V) (k : Int), vs = [.ref a] ∧ H a = some (.tup (.str z :: rest)) ∧ (∃ t, PySem.W.nsIn K ad.I z = some (some (.int k t))) ∧ Q (.int k) H
def spIn (K : PySem.W.Frag) (ad : Ad) : Sp := fun vs H Q _ => ∃ (a : Addr) (z : Str) (rest : List V) (k : Nat), vs = [.ref a] ∧ H a = some (.tup (.str z :: rest)) ∧ (∃ t, PySem.W.nsIn K ad.I z = some (some (.int (k : Int) t))) ∧ 0 < k ∧ ∀ p H', Same H H' → H' p = some (.tup ((V.str z :: rest).drop k)) → Q (.ref p) H'
abbrev kT : Key := .inr (Str.ofString "t")
def spNo2 : Sp := fun vs _ _ _ => vs.length = 2 ∧ False
def spE0 : Sp := fun vs H Q _ => ∃ a d : Addr, vs = [.ref a, .ref d] ∧ ((H a = some (.tup [.str (Str.ofString "unit")]) ∧ Q (.int 1) H) ∨ ∃ k kvs, H a = some (.tup [.str (Str.ofString "scan"), .str (Str.ofString "t"), .int k]) ∧ H d = some (.dK kvs) ∧ Q ((valV kvs kT).getD (.int 0)) H)
def spE1 : Sp := fun vs H Q _ => ∃ (a d : Addr) (kvs : List (Key × V)) (n : Int), vs = [.ref a, .ref d] ∧ H d = some (.dK kvs) ∧ (valV kvs kT).getD (.int 0) = .int n ∧
  ((∃ (t s : Addr) (T : M24.Tm) (k : Int), H a = some (.tup [.str (Str.ofString "filter"), .ref t, .ref s]) ∧ H s = some (.tup [.str (Str.ofString "scan"), .str (Str.ofString "t"), .int k]) ∧ TmO H t T ∧ okT T ∧ dep T ≤ 8 ∧ 0 ≤ n ∧ ∀ r H', Same H H' → 0 ≤ r → r ≤ n → Q (.int r) H') ∨
  (∃ (s : Addr) (k : Int), n = 9 ∧ H a = some (.tup [.str (Str.ofString "limit"), .int 3, .int 1, .ref s]) ∧ H s = some (.tup [.str (Str.ofString "scan"), .str (Str.ofString "t"), .int k]) ∧ ∀ H', Same H H' → Q (.int 3) H') ∨
  (∃ (u s : Addr) (k : Int), n = 0 ∧ H a = some (.tup [.str (Str.ofString "join"), .bl true, .non, .ref u, .ref s]) ∧ H u = some (.tup [.str (Str.ofString "unit")]) ∧ H s = some (.tup [.str (Str.ofString "scan"), .str (Str.ofString "t"), .int k]) ∧ ∀ H', Same H H' → Q (.int 1) H'))
section
variable {P : Program} {w : World} {K : PySem.W.Frag} {mg : Str → Option Value} {base : Heap} {ad : Ad}
theorem ok_selectivity (W : Ws K mg ad) : Cl P w K mg base 1 "selectivity" (spSel ad) := by
  refine cl_mk W.d_selectivity sc_selectivity (fun _ _ _ _ _ _ us hl => match us, hl with | [_, _], _ => rfl) (fun vs H Q E h => ?_) (fun f cdv A outer s H vs Q E hr h => ?_)
  · obtain ⟨b, B, n, rfl, _⟩ := h; rfl
  obtain ⟨b, ⟨es, lo, hi⟩, n, rfl, ⟨dx, qa, as, l, hv, h1, h2, h3, h4, h5, h6⟩, hn, q⟩ := h
  have h4' : as.map (·.2) = es := h4
  refine ⟨_, (pss_cons (ps_for (passes_of rfl) rfl (pi_tup (pe_fld (pv 0) rfl)) (pg_name (i := 2) sc_selectivity.nd rfl (Or.inl rfl))
    (pss_one (ps_set (i := 1) sc_selectivity.nd rfl (Or.inl rfl) (pe_op op_add (pe_op op_fdivW (pv 1) (C8.pe_gc rfl W.c_EQUAL_PART)) pe_int))))
    (pss_cons (ps_for (passes_of rfl) rfl (pi_tup (pe_tup (pa_cons (pe_fld (pv 0) rfl) (pa_cons (pe_fld (pv 0) rfl) pa_nil)))) (pg_name (i := 3) sc_selectivity.nd rfl (Or.inl rfl))
    (pss_one (ps_if (pt_cmpR op_notN1 (pv 3) pe_non (nomark _))
    (pss_one (ps_set (i := 1) sc_selectivity.nd rfl (Or.inl rfl) (pe_op op_add (pe_op op_fdivW (pv 1) (C8.pe_gc rfl W.c_OTHER_PART)) pe_int)))
    pss_nil)))
    (pss_one (ps_ret (pv 1))))), ?_⟩
  walk_at "g"
  refine w_forT (SqT.of h2) (fun i σ H' => H' = H ∧ ∃ (m : Int) (v2 v3 : Option V), σ = [some (.ref b), some (.int m), v2, v3] ∧ 0 ≤ m ∧ m ≤ n + 3 ∧ (m ≤ n ∨ m ≤ 1) ∧ (i = 0 → m = n)) ⟨rfl, n, none, none, rfl, hn, by omega, .inl (Int.le_refl _), fun _ => rfl⟩ (fun i σ H' _ h => by rw [h.1]; exact SqT.of h2) ?_ ?_
  · rintro i y σ H' hi ⟨rfl, m, v2, v3, rfl, m0, m1, m2, m3⟩
    walk_at "g"
    exact ⟨rfl, _, _, _, rfl, by omega, by omega, by omega, fun z => by omega⟩
  · rintro σ H' ⟨rfl, m, v2, v3, rfl, m0, m1, m2, m3⟩
    rw [List.length_map] at m3
    walk_at "g"
    intro T hT
    have s1 := same_new hT (.tup [l, hv])
    have eT : (upd H' T (.tup [l, hv])) T = some (.tup [l, hv]) := upd_same
    generalize upd H' T (.tup [l, hv]) = H1 at s1 eT
    refine w_forT (SqT.of eT) (fun i σ H2 => H2 = H1 ∧ ∃ (m : Int) (v2 v3 : Option V), σ = [some (.ref b), some (.int m), v2, v3] ∧ 0 ≤ m ∧ m ≤ n + 3 ∧ (m ≤ n ∨ m ≤ 1) ∧ (opn (es, lo, hi) = true → m = n)) ⟨rfl, m, v2, v3, rfl, m0, m1, m2, fun z => m3 ?_⟩ (fun i σ H2 _ h => by rw [h.1]; exact SqT.of eT) ?_ ?_
    · have : es = [] := by
        unfold opn at z
        exact of_decide_eq_true (Bool.and_eq_true_iff.mp z).1
      rw [this] at h4'
      have := congrArg List.length h4'
      rwa [List.length_map] at this
    · rintro i y σ H2 hiy ⟨rfl, m, v2, v3, rfl, m0, m1, m2, m3⟩
      walk_at "g"
      refine ⟨rfl, ?_⟩
      walk_at "g"
      refine w_iteN (fun c => ?_) (fun c => ?_)
      · walk_at "g"
        refine ⟨rfl, _, _, _, rfl, by omega, by omega, by omega, fun z => ?_⟩
        exfalso
        unfold opn at z
        obtain ⟨_, z2⟩ := Bool.and_eq_true_iff.mp z
        obtain ⟨z3, z4⟩ := Bool.and_eq_true_iff.mp z2
        have el : l = .non := by
          rcases lo with _ | b'
          · exact h5
          · cases z3
        have eh : hv = .non := by
          rcases hi with _ | b'
          · exact h6
          · cases z4
        rcases List.mem_cons.mp (List.mem_of_getElem? hiy) with e | e
        · exact c (e.trans el)
        · exact c ((List.mem_singleton.mp e).trans eh)
      · walk_at "g"
        exact ⟨rfl, m, v2, _, rfl, m0, m1, m2, m3⟩
    · rintro σ H2 ⟨rfl, m, v2, v3, rfl, m0, m1, m2, m3⟩
      walk_at "g"
      exact q m _ s1 m0 m1 m3
theorem ok_part_left (W : Ws K mg ad) : Cl P w K mg base 1 "part_left" spPL := by
  refine cl_mk W.d_part_left sc_part_left (fun _ _ _ _ _ _ us hl => match us, hl with | [_, _], _ => rfl) (fun vs H Q E h => ?_) (fun f cdv A outer s H vs Q E hr h => ?_)
  · obtain ⟨t, c, n, rfl, _⟩ := h; rfl
  obtain ⟨t, c, n, rfl, ht, hn, q⟩ := h
  refine ⟨_, (pss_cons (ps_if (PW.pt (pw_and (pt_cmpR op_eq (pe_ix ix_tup (pv 0) pe_int (fun _ _ => rfl)) pe_str (nomark _)) (pw_and1 (pt_cmpR op_eq (pe_ix ix_tup (pv 0) pe_int (fun _ _ => rfl)) pe_str (nomark _)))))
    (pss_one (ps_ret (pe_op op_add (pe_op op_fdivW (pv 1) (C8.pe_gc rfl W.c_EQUAL_PART)) pe_int)))
    pss_nil)
    (pss_one (ps_ret (pe_op op_add (pe_op op_fdivW (pv 1) (C8.pe_gc rfl W.c_OTHER_PART)) pe_int)))), ?_⟩
  cases c with
  | isn p =>
    obtain ⟨x, h1, h2⟩ := ht
    walk_at "g"
    exact q _ (by omega)
  | cmp g l r =>
    obtain ⟨x, y, h1, h3, h2⟩ := ht
    walk_at "g"
    refine w_iteD (fun c => ?_) (fun c => ?_)
    · walk_at "g"
      exact q _ (by omega)
    · walk_at "g"
      exact q _ (by omega)
theorem ok_expected_pairs (W : Ws K mg ad) (c_bound_conjuncts : Cl P w K mg base 1 "bound_conjuncts" spBC) (c_part_left : Cl P w K mg base 1 "part_left" spPL) : Cl P w K mg base 2 "expected_pairs" spEP := by
  refine cl_mk W.d_expected_pairs sc_expected_pairs (fun _ _ _ _ _ _ us hl => match us, hl with | [_, _], _ => rfl) (fun vs H Q E h => ?_) (fun f cdv A outer s H vs Q E hr h => ?_)
  · obtain ⟨n, rfl, _⟩ := h; rfl
  obtain ⟨n, rfl, q⟩ := h
  refine ⟨_, (pss_cons (ps_if (pt_cmpR op_isN1 (pv 0) pe_non (nomark _))
    (pss_one (ps_ret (pv 1)))
    pss_nil)
    (pss_cons (ps_for (passes_of rfl) rfl (pi_tup (pe_cl c_bound_conjuncts hr (by first | decide | omega) rfl passL (pa_cons (pv 0) pa_nil))) (pg_name (i := 2) sc_expected_pairs.nd rfl (Or.inl rfl))
    (pss_one (ps_set (i := 1) sc_expected_pairs.nd rfl (Or.inl rfl) (pe_cl c_part_left hr (by first | decide | omega) rfl passL (pa_cons (pv 2) (pa_cons (pv 1) pa_nil))))))
    (pss_one (ps_ret (pv 1))))), ?_⟩
  walk_at "g"
  exact q
theorem ok_input_place (W : Ws K mg ad) (D : Wk K w mg ad) : Cl P w K mg base 1 "input_place" (spIP K ad) := by
  refine cl_mk W.d_input_place sc_input_place (fun _ _ _ _ _ _ us hl => match us, hl with | [_], _ => rfl) (fun vs H Q E h => ?_) (fun f cdv A outer s H vs Q E hr h => ?_)
  · obtain ⟨a, z, rest, k, rfl, _⟩ := h; rfl
  obtain ⟨a, z, rest, k, rfl, ha, ⟨t, ht⟩, q⟩ := h
  obtain ⟨es, n, KD_INPUT_PLACES⟩ := D.I
  refine ⟨_, (pss_cons (ps_if (pt_cmpR (op_notIn_kd KD_INPUT_PLACES) (pe_ix ix_tup (pv 0) pe_int (fun _ _ => rfl)) (C8.pe_gc rfl W.c_INPUT_PLACES) (by with_unfolding_all rfl))
    (pss_one ps_never)
    pss_nil)
    (pss_one (ps_ret (pe_ix ix_kdict (C8.pe_gc rfl W.c_INPUT_PLACES) (pe_ix ix_tup (pv 0) pe_int (fun _ _ => rfl)) (fun _ _ => rfl))))), ?_⟩
  walk_at "g"
  refine w_ixA ha head0 ?_
  walk_at "g"
  refine ⟨_, _, rfl, rfl, ht, false, rfl, ?_⟩
  walk_at "g"
  refine w_ixA ha head0 ?_
  walk_at "g"
  refine w_kdIx (v := .int k) KD_INPUT_PLACES ht ⟨t, rfl⟩ ?_
  exact q
theorem ok_inputs (W : Ws K mg ad) (c_input_place : Cl P w K mg base 1 "input_place" (spIP K ad)) : Cl P w K mg base 2 "inputs" (spIn K ad) := by
  refine cl_mk W.d_inputs sc_inputs (fun _ _ _ _ _ _ us hl => match us, hl with | [_], _ => rfl) (fun vs H Q E h => ?_) (fun f cdv A outer s H vs Q E hr h => ?_)
  · obtain ⟨a, z, rest, k, rfl, _⟩ := h; rfl
  obtain ⟨a, z, rest, k, rfl, ha, ht, hk, q⟩ := h
  refine ⟨_, (pss_one (ps_ret (pe_slice sl_tupA (pv 0) (po_some (pe_cl c_input_place hr (by first | decide | omega) rfl passL (pa_cons (pv 0) pa_nil))) po_none))), ?_⟩
  walk_at "g"
  refine ⟨a, z, rest, _, rfl, ha, ht, ?_⟩
  walk_at "g"
  refine ⟨a, _, rfl, SqT.of ha, fun hw => ?_, fun _ p hp => ?_⟩
  · rw [HT.sIx_nat, List.length_cons] at hw
    omega
  · exact q p _ (same_new hp _) (by rw [upd_same, cut_drop])
theorem ok_eNo (W : Ws K mg ad) : Cl P w K mg base 2 "expected_rows" spNo2 := by
  refine cl_mk W.d_expected_rows sc_expected_rows (fun _ _ _ _ _ _ us hl => match us, hl with | [_, _], _ => rfl) (fun vs H Q E h => h.1) (fun f cdv A outer s H vs Q E hr h => h.2.elim)
theorem ok_e0 (W : Ws K mg ad) (c_inputs : Cl P w K mg base 2 "inputs" (spIn K ad)) (c_bound_conjuncts : Cl P w K mg base 1 "bound_conjuncts" spBC) (c_part_left : Cl P w K mg base 1 "part_left" spPL) (c_expected_pairs : Cl P w K mg base 2 "expected_pairs" spEP) (c_expected_rows : Cl P w K mg base 2 "expected_rows" spNo2) : Cl P w K mg base 3 "expected_rows" spE0 := by
  refine cl_mk W.d_expected_rows sc_expected_rows (fun _ _ _ _ _ _ us hl => match us, hl with | [_, _], _ => rfl) (fun vs H Q E h => ?_) (fun f cdv A outer s H vs Q E hr h => ?_)
  · obtain ⟨a, d, rfl, _⟩ := h; rfl
  obtain ⟨a, d, rfl, h⟩ := h
  refine ⟨_, (pss_cons (ps_if (pt_cmpR op_eq (pe_ix ix_tup (pv 0) pe_int (fun _ _ => rfl)) pe_str (nomark _))
    (pss_one (ps_ret pe_int))
    pss_nil)
    (pss_cons (ps_if (pt_cmpR op_eq (pe_ix ix_tup (pv 0) pe_int (fun _ _ => rfl)) pe_str (nomark _))
    (pss_one (ps_ret (pe_dget2 (hu_of hr) (pv 1) (pe_ix ix_tup (pv 0) pe_int (fun _ _ => rfl)) pe_int ⟨rfl, rfl, rfl, rfl⟩)))
    pss_nil)
    (pss_cons (ps_setLc (i := 2) (own := [("one", 3)]) rfl sc_expected_rows.nd rfl rfl (sw_true rfl rfl rfl (by decide +kernel)) (pi_tup (pe_cl c_inputs hr (by first | decide | omega) rfl passL (pa_cons (pv 0) pa_nil))) (blkOk_by (own := [("one", 3)]) (N := ["plan", "counts", "inner", "one", "many", "test", "pairs", "left"]) (sc := defScope s_expected_rows) (by decide +kernel)) (fun _ _ _ _ _ => (pg_name (i := 3) sc_expected_rows.nd rfl (by first | exact Or.inl rfl | exact Or.inr rfl))) (fun _ _ _ _ _ => pts_nil) (fun _ _ _ _ _ => (pe_cl c_expected_rows hr (by first | decide | omega) rfl passL (pa_cons (pv 3) (pa_cons (pv 1) pa_nil)))))
    (pss_cons (ps_if (pt_cmpR op_eq (pe_ix ix_tup (pv 0) pe_int (fun _ _ => rfl)) pe_str (nomark _))
    (pss_cons (ps_set (i := 4) sc_expected_rows.nd rfl (Or.inl rfl) (pe_ix ix_list (pv 2) pe_int (fun _ _ => rfl)))
    (pss_cons (ps_for (passes_of rfl) rfl (pi_tup (pe_cl c_bound_conjuncts hr (by first | decide | omega) rfl passL (pa_cons (pe_ix ix_tup (pv 0) pe_int (fun _ _ => rfl)) pa_nil))) (pg_name (i := 5) sc_expected_rows.nd rfl (Or.inl rfl))
    (pss_one (ps_set (i := 4) sc_expected_rows.nd rfl (Or.inl rfl) (pe_callB (call_min2 rfl) rfl W.n_min (by decide +kernel) (pa_cons (pv 4) (pa_cons (pe_cl c_part_left hr (by first | decide | omega) rfl passL (pa_cons (pv 5) (pa_cons (pv 4) pa_nil))) pa_nil))))))
    (pss_one (ps_ret (pv 4)))))
    pss_nil)
    (pss_cons (ps_if (pt_cmpR op_eq (pe_ix ix_tup (pv 0) pe_int (fun _ _ => rfl)) pe_str (nomark _))
    (pss_cons (ps_set (i := 6) sc_expected_rows.nd rfl (Or.inl rfl) (pe_cl c_expected_pairs hr (by first | decide | omega) rfl passL (pa_cons (pe_ix ix_tup (pv 0) pe_int (fun _ _ => rfl)) (pa_cons (pe_op op_mul (pe_ix ix_list (pv 2) pe_int (fun _ _ => rfl)) (pe_ix ix_list (pv 2) pe_int (fun _ _ => rfl))) pa_nil))))
    (pss_one (ps_ret (pe_ifExp (pt_val (pe_ix ix_tup (pv 0) pe_int (fun _ _ => rfl))) (pe_callB (call_max2 rfl) rfl W.n_max (by decide +kernel) (pa_cons (pv 6) (pa_cons (pe_ix ix_list (pv 2) pe_int (fun _ _ => rfl)) pa_nil))) (pv 6)))))
    pss_nil)
    (pss_cons (ps_if (pt_cmpR op_eq (pe_ix ix_tup (pv 0) pe_int (fun _ _ => rfl)) pe_str (nomark _))
    (pss_one (ps_ret (pe_ifExp (pt_cmpR (op_eqD (hu64 hr)) (pe_ix ix_tup (pv 0) pe_int (fun _ _ => rfl)) (pe_tup pa_nil) (nomark _)) pe_int (pe_ix ix_list (pv 2) pe_int (fun _ _ => rfl)))))
    pss_nil)
    (pss_cons (ps_if (pt_cmpR op_eq (pe_ix ix_tup (pv 0) pe_int (fun _ _ => rfl)) pe_str (nomark _))
    (pss_one (ps_ret (pe_op op_add (pe_ix ix_list (pv 2) pe_int (fun _ _ => rfl)) (pe_ix ix_list (pv 2) pe_int (fun _ _ => rfl)))))
    pss_nil)
    (pss_cons (ps_if (pt_cmpR op_eq (pe_ix ix_tup (pv 0) pe_int (fun _ _ => rfl)) pe_str (nomark _))
    (pss_one (ps_ret (pe_callB (call_min2 rfl) rfl W.n_min (by decide +kernel) (pa_cons (pe_ix ix_list (pv 2) pe_int (fun _ _ => rfl)) (pa_cons (pe_ix ix_list (pv 2) pe_int (fun _ _ => rfl)) pa_nil)))))
    pss_nil)
    (pss_cons (ps_if (pt_cmpR op_eq (pe_ix ix_tup (pv 0) pe_int (fun _ _ => rfl)) pe_str (nomark _))
    (pss_cons (ps_set (i := 7) sc_expected_rows.nd rfl (Or.inl rfl) (pe_callB (call_max2 rfl) rfl W.n_max (by decide +kernel) (pa_cons pe_int (pa_cons (pe_op op_sub (pe_ix ix_list (pv 2) pe_int (fun _ _ => rfl)) (pe_callB (call_max2 rfl) rfl W.n_max (by decide +kernel) (pa_cons pe_int (pa_cons (pe_ix ix_tup (pv 0) pe_int (fun _ _ => rfl)) pa_nil)))) pa_nil))))
    (pss_one (ps_ret (pe_ifExp (pt_cmpR op_isN1 (pe_ix ix_tup (pv 0) pe_int (fun _ _ => rfl)) pe_non (nomark _)) (pv 7) (pe_callB (call_min2 rfl) rfl W.n_min (by decide +kernel) (pa_cons (pv 7) (pa_cons (pe_callB (call_max2 rfl) rfl W.n_max (by decide +kernel) (pa_cons pe_int (pa_cons (pe_ix ix_tup (pv 0) pe_int (fun _ _ => rfl)) pa_nil))) pa_nil)))))))
    pss_nil)
    (pss_one (ps_ret (pe_ix ix_list (pv 2) pe_int (fun _ _ => rfl))))))))))))), ?_⟩
  rcases h with ⟨ha, q⟩ | ⟨k, kvs, ha, hd, q⟩
  · walk_at "g"
    exact q
  · walk_at "g"
    refine ⟨d, rfl, .inl ⟨_, .inl hd⟩, ?_⟩
    walk_at "g"
    exact ⟨_, DGet.k (k := kT) hd, q⟩
theorem ok_e1 (W : Ws K mg ad) (D : Wk K w mg ad) (c_inputs : Cl P w K mg base 2 "inputs" (spIn K ad)) (c_bound_conjuncts : Cl P w K mg base 1 "bound_conjuncts" spBC) (c_part_left : Cl P w K mg base 1 "part_left" spPL) (c_expected_pairs : Cl P w K mg base 2 "expected_pairs" spEP) (c_expected_rows : Cl P w K mg base 3 "expected_rows" spE0) : Cl P w K mg base 4 "expected_rows" spE1 := by
  refine cl_mk W.d_expected_rows sc_expected_rows (fun _ _ _ _ _ _ us hl => match us, hl with | [_, _], _ => rfl) (fun vs H Q E h => ?_) (fun f cdv A outer s H vs Q E hr h => ?_)
  · obtain ⟨a, d, kvs, n, rfl, _⟩ := h; rfl
  obtain ⟨a, d, kvs, n, rfl, hd, hv, h⟩ := h
  refine ⟨_, (pss_cons (ps_if (pt_cmpR op_eq (pe_ix ix_tup (pv 0) pe_int (fun _ _ => rfl)) pe_str (nomark _))
    (pss_one (ps_ret pe_int))
    pss_nil)
    (pss_cons (ps_if (pt_cmpR op_eq (pe_ix ix_tup (pv 0) pe_int (fun _ _ => rfl)) pe_str (nomark _))
    (pss_one (ps_ret (pe_dget2 (hu_of hr) (pv 1) (pe_ix ix_tup (pv 0) pe_int (fun _ _ => rfl)) pe_int ⟨rfl, rfl, rfl, rfl⟩)))
    pss_nil)
    (pss_cons (ps_setLc (i := 2) (own := [("one", 3)]) rfl sc_expected_rows.nd rfl rfl (sw_true rfl rfl rfl (by decide +kernel)) (pi_tup (pe_cl c_inputs hr (by first | decide | omega) rfl passL (pa_cons (pv 0) pa_nil))) (blkOk_by (own := [("one", 3)]) (N := ["plan", "counts", "inner", "one", "many", "test", "pairs", "left"]) (sc := defScope s_expected_rows) (by decide +kernel)) (fun _ _ _ _ _ => (pg_name (i := 3) sc_expected_rows.nd rfl (by first | exact Or.inl rfl | exact Or.inr rfl))) (fun _ _ _ _ _ => pts_nil) (fun _ _ _ _ _ => (pe_cl c_expected_rows hr (by first | decide | omega) rfl passL (pa_cons (pv 3) (pa_cons (pv 1) pa_nil)))))
    (pss_cons (ps_if (pt_cmpR op_eq (pe_ix ix_tup (pv 0) pe_int (fun _ _ => rfl)) pe_str (nomark _))
    (pss_cons (ps_set (i := 4) sc_expected_rows.nd rfl (Or.inl rfl) (pe_ix ix_list (pv 2) pe_int (fun _ _ => rfl)))
    (pss_cons (ps_for (passes_of rfl) rfl (pi_tup (pe_cl c_bound_conjuncts hr (by first | decide | omega) rfl passL (pa_cons (pe_ix ix_tup (pv 0) pe_int (fun _ _ => rfl)) pa_nil))) (pg_name (i := 5) sc_expected_rows.nd rfl (Or.inl rfl))
    (pss_one (ps_set (i := 4) sc_expected_rows.nd rfl (Or.inl rfl) (pe_callB (call_min2 rfl) rfl W.n_min (by decide +kernel) (pa_cons (pv 4) (pa_cons (pe_cl c_part_left hr (by first | decide | omega) rfl passL (pa_cons (pv 5) (pa_cons (pv 4) pa_nil))) pa_nil))))))
    (pss_one (ps_ret (pv 4)))))
    pss_nil)
    (pss_cons (ps_if (pt_cmpR op_eq (pe_ix ix_tup (pv 0) pe_int (fun _ _ => rfl)) pe_str (nomark _))
    (pss_cons (ps_set (i := 6) sc_expected_rows.nd rfl (Or.inl rfl) (pe_cl c_expected_pairs hr (by first | decide | omega) rfl passL (pa_cons (pe_ix ix_tup (pv 0) pe_int (fun _ _ => rfl)) (pa_cons (pe_op op_mul (pe_ix ix_list (pv 2) pe_int (fun _ _ => rfl)) (pe_ix ix_list (pv 2) pe_int (fun _ _ => rfl))) pa_nil))))
    (pss_one (ps_ret (pe_ifExp (pt_val (pe_ix ix_tup (pv 0) pe_int (fun _ _ => rfl))) (pe_callB (call_max2 rfl) rfl W.n_max (by decide +kernel) (pa_cons (pv 6) (pa_cons (pe_ix ix_list (pv 2) pe_int (fun _ _ => rfl)) pa_nil))) (pv 6)))))
    pss_nil)
    (pss_cons (ps_if (pt_cmpR op_eq (pe_ix ix_tup (pv 0) pe_int (fun _ _ => rfl)) pe_str (nomark _))
    (pss_one (ps_ret (pe_ifExp (pt_cmpR (op_eqD (hu64 hr)) (pe_ix ix_tup (pv 0) pe_int (fun _ _ => rfl)) (pe_tup pa_nil) (nomark _)) pe_int (pe_ix ix_list (pv 2) pe_int (fun _ _ => rfl)))))
    pss_nil)
    (pss_cons (ps_if (pt_cmpR op_eq (pe_ix ix_tup (pv 0) pe_int (fun _ _ => rfl)) pe_str (nomark _))
    (pss_one (ps_ret (pe_op op_add (pe_ix ix_list (pv 2) pe_int (fun _ _ => rfl)) (pe_ix ix_list (pv 2) pe_int (fun _ _ => rfl)))))
    pss_nil)
    (pss_cons (ps_if (pt_cmpR op_eq (pe_ix ix_tup (pv 0) pe_int (fun _ _ => rfl)) pe_str (nomark _))
    (pss_one (ps_ret (pe_callB (call_min2 rfl) rfl W.n_min (by decide +kernel) (pa_cons (pe_ix ix_list (pv 2) pe_int (fun _ _ => rfl)) (pa_cons (pe_ix ix_list (pv 2) pe_int (fun _ _ => rfl)) pa_nil)))))
    pss_nil)
    (pss_cons (ps_if (pt_cmpR op_eq (pe_ix ix_tup (pv 0) pe_int (fun _ _ => rfl)) pe_str (nomark _))
    (pss_cons (ps_set (i := 7) sc_expected_rows.nd rfl (Or.inl rfl) (pe_callB (call_max2 rfl) rfl W.n_max (by decide +kernel) (pa_cons pe_int (pa_cons (pe_op op_sub (pe_ix ix_list (pv 2) pe_int (fun _ _ => rfl)) (pe_callB (call_max2 rfl) rfl W.n_max (by decide +kernel) (pa_cons pe_int (pa_cons (pe_ix ix_tup (pv 0) pe_int (fun _ _ => rfl)) pa_nil)))) pa_nil))))
    (pss_one (ps_ret (pe_ifExp (pt_cmpR op_isN1 (pe_ix ix_tup (pv 0) pe_int (fun _ _ => rfl)) pe_non (nomark _)) (pv 7) (pe_callB (call_min2 rfl) rfl W.n_min (by decide +kernel) (pa_cons (pv 7) (pa_cons (pe_callB (call_max2 rfl) rfl W.n_max (by decide +kernel) (pa_cons pe_int (pa_cons (pe_ix ix_tup (pv 0) pe_int (fun _ _ => rfl)) pa_nil))) pa_nil)))))))
    pss_nil)
    (pss_one (ps_ret (pe_ix ix_list (pv 2) pe_int (fun _ _ => rfl))))))))))))), ?_⟩
  rcases h with ⟨t, s', T, k, ha, hs, ht, okt, hdp, hn, q⟩ | ⟨s', k, rfl, ha, hs, q⟩ | ⟨u, s', k, rfl, ha, hu, hs, q⟩
  · walk_at "g"
    refine ⟨a, _, _, 2, rfl, ha, D.i_filter, by decide, fun p H1 s1 hp => ?_⟩
    have hp2 : H1 p = some (.tup [.ref s']) := hp
    refine w_lcTn (SqT.of hp2) fun L hL => ⟨fun j H2 => Same H1 H2 ∧ H2 L = some (.lst ([V.int n].take j)), ⟨same_new hL _, upd_same⟩, fun j H2 _ h => SqT.of (h.1 _ _ hp2), ?_, ?_⟩
    · rintro j y H2 hj ⟨s2, eL⟩
      have j0 : j = 0 := by
        have := (List.getElem?_eq_some_iff.mp hj).1
        simpa using this
      subst j0
      cases hj
      have s12 := s1.trans s2
      walk_at "g"
      refine ⟨rfl, ?_⟩
      walk_at "g"
      refine ⟨s', d, rfl, .inr ⟨k, kvs, s12 _ _ hs, s12 _ _ hd, ?_⟩⟩
      rw [hv]
      exact ⟨_, eL, by show 0 < sizeLine; decide, same_upd s2 hL, upd_same⟩
    · rintro H2 ⟨s2, eL⟩
      have eL2 : H2 L = some (.lst [.int n]) := eL
      have s12 := s1.trans s2
      have ha2 := s12 _ _ ha
      have ht2 := TmO.tk (Tk.of s12) ht
      clear eL hp hp2 s1 s2 ha ht hL
      walk_at "g"
      refine ⟨t, T, rfl, ht2, okt, hdp, fun p as H3 s3 hp has hc => ?_⟩
      refine w_forT (SqT.of hp) (fun i σ H' => H' = H3 ∧ ∃ (m : Int) (v3 v5 v6 v7 : Option V), σ = [some (.ref a), some (.ref d), some (.ref L), v3, some (.int m), v5, v6, v7] ∧ 0 ≤ m ∧ m ≤ n) ⟨rfl, n, _, _, _, _, rfl, hn, Int.le_refl _⟩ (fun i σ H' _ h => by rw [h.1]; exact SqT.of hp) ?_ ?_
      · rintro i y σ H' hi ⟨rfl, m, v3, v5, v6, v7, rfl, m0, m1⟩
        obtain ⟨r, hr2, rfl⟩ := map_get hi
        walk_at "g"
        refine ⟨r.1, r.2, m, rfl, has r (List.mem_of_getElem? hr2), m0, fun x hx => ?_⟩
        walk_at "g"
        refine ⟨_, _, rfl, ?_⟩
        walk_at "g"
        refine ⟨rfl, _, _, _, _, _, rfl, ?_, ?_⟩
        · split <;> omega
        · split <;> omega
      · rintro σ H' ⟨rfl, m, v3, v5, v6, v7, rfl, m0, m1⟩
        walk_at "g"
        exact q m _ (s12.trans s3) m0 m1
  · walk_at "g"
    refine ⟨a, _, _, 3, rfl, ha, D.i_limit, by decide, fun p H1 s1 hp => ?_⟩
    have hp2 : H1 p = some (.tup [.ref s']) := hp
    refine w_lcTn (SqT.of hp2) fun L hL => ⟨fun j H2 => Same H1 H2 ∧ H2 L = some (.lst ([V.int 9].take j)), ⟨same_new hL _, upd_same⟩, fun j H2 _ h => SqT.of (h.1 _ _ hp2), ?_, ?_⟩
    · rintro j y H2 hj ⟨s2, eL⟩
      have j0 : j = 0 := by
        have := (List.getElem?_eq_some_iff.mp hj).1
        simpa using this
      subst j0
      cases hj
      have s12 := s1.trans s2
      walk_at "g"
      refine ⟨rfl, ?_⟩
      walk_at "g"
      refine ⟨s', d, rfl, .inr ⟨k, kvs, s12 _ _ hs, s12 _ _ hd, ?_⟩⟩
      rw [hv]
      exact ⟨_, eL, by decide, same_upd s2 hL, upd_same⟩
    · rintro H2 ⟨s2, eL⟩
      have eL2 : H2 L = some (.lst [.int 9]) := eL
      have s12 := s1.trans s2
      have ha2 := s12 _ _ ha
      clear eL hp hp2 s1 s2 ha hL
      walk_at "g"
      refine ⟨_, _, rfl, ?_⟩
      walk_at "g"
      refine ⟨_, _, rfl, ?_⟩
      walk_at "g"
      refine ⟨_, _, rfl, ?_⟩
      walk_at "g"
      refine ⟨_, _, rfl, ?_⟩
      exact q _ s12
  · walk_at "g"
    refine ⟨a, _, _, 3, rfl, ha, D.i_join, by decide, fun p H1 s1 hp => ?_⟩
    have hp2 : H1 p = some (.tup [.ref u, .ref s']) := hp
    refine w_lcTn (SqT.of hp2) fun L hL => ⟨fun j H2 => Same H1 H2 ∧ H2 L = some (.lst ([V.int 1, V.int 0].take j)), ⟨same_new hL _, upd_same⟩, fun j H2 _ h => SqT.of (h.1 _ _ hp2), ?_, ?_⟩
    · rintro j y H2 hj ⟨s2, eL⟩
      have s12 := s1.trans s2
      have j0 : j = 0 ∨ j = 1 := by
        have := (List.getElem?_eq_some_iff.mp hj).1
        simp only [List.length_cons, List.length_nil] at this
        omega
      walk_at "g"
      refine ⟨rfl, ?_⟩
      walk_at "g"
      rcases j0 with rfl | rfl
      · cases hj
        exact ⟨u, d, rfl, .inl ⟨s12 _ _ hu, _, eL, by decide, same_upd s2 hL, upd_same⟩⟩
      · cases hj
        refine ⟨s', d, rfl, .inr ⟨k, kvs, s12 _ _ hs, s12 _ _ hd, ?_⟩⟩
        rw [hv]
        exact ⟨_, eL, by decide, same_upd s2 hL, upd_same⟩
    · rintro H2 ⟨s2, eL⟩
      have eL2 : H2 L = some (.lst [.int 1, .int 0]) := eL
      have s12 := s1.trans s2
      have ha2 := s12 _ _ ha
      clear eL hp hp2 s1 s2 ha hL
      walk_at "g"
      refine ⟨_, rfl, ?_⟩
      walk_at "g"
      refine ⟨_, _, rfl, ?_⟩
      exact q _ s12
end
end K24
end

section
-- part K24J
set_option Elab.async false
set_option linter.all false
set_option maxRecDepth 100000
set_option maxHeartbeats 800000
open PySem PySem.Spec PyProof.Rows L2 Fw
local macro_rules | `(tactic| walk_at "e1") => `(tactic| first
  | ((with_reducible refine' w_var ?hv ?_); (case hv => rfl))
  | ((with_reducible refine' K24.w_ixA ?hh ?ha ?_); (case hh => first | assumption | exact upd_same); (case ha => rfl))
  | ((with_reducible refine' K24.w_eqLF ?hl ?_); (case hl => decide +kernel))
  | ((with_reducible refine' K24.w_eqLT ?hl ?_); (case hl => rfl))
  | ((with_reducible refine' K24.w_neLF ?hl ?_); (case hl => decide +kernel))
  | ((with_reducible refine' K24.w_neLT ?hl ?_); (case hl => rfl))
  | with_reducible refine Fw.w_notV ?_
  | with_reducible refine F24.w_iZipM ?_
  | with_reducible refine F24.w_iZipA ?_
  | with_reducible refine Fge.w_cld ?_
  | with_reducible refine w_c ?_
  | with_reducible refine w_op ?_
  | with_reducible refine w_un ?_
  | with_reducible refine w_cons ?_
  | with_reducible refine w_nil ?_
  | with_reducible refine w_cl ?_
  | with_reducible refine w_cb ?_
  | with_reducible refine w_gname ?_
  | with_reducible refine w_gsub ?_
  | with_reducible refine w_test ?_
  | with_reducible refine w_B ?_
  | with_reducible refine w_bl ?_
  | with_reducible refine w_and ?_
  | with_reducible refine w_or ?_
  | with_reducible refine w_not ?_
  | with_reducible refine w_if ?_
  | with_reducible refine w_I0 ?_
  | with_reducible refine Gk.w_rU ?_
  | with_reducible refine Dq.w_orV ?_
  | with_reducible refine Dq.w_js ?_
  | with_reducible refine Dq.w_js0 ?_
  | with_reducible refine Dq.w_fm ?_
  | with_reducible refine Dq.w_andV ?_
  | with_reducible refine Gk.w_iEnum ?_
  | with_reducible refine Dq.w_dget ?_
  | with_reducible refine Dq.w_dpop1 ?_
  | with_reducible refine Dq.w_ddel ?_
  | with_reducible refine Dq.w_din ?_
  | with_reducible refine Dq.w_dnotin ?_
  | with_reducible refine Dq.w_dget2 ?_
  | with_reducible refine Dq.w_dnew ?_
  | with_reducible refine Dq.w_fldaug ?_
  | with_reducible refine Dq.w_aSub ?_
  | with_reducible refine Dq.w_aAdd ?_
  | with_reducible refine Dq.w_mkd ?_
  | with_reducible refine Dq.w_notN0 ?_
  | with_reducible refine Dq.w_isN0 ?_
  | with_reducible refine Ftw.w_isTI ?_
  | with_reducible refine Ftw.w_isTS ?_
  | with_reducible refine Ftw.w_isTR ?_
  | with_reducible refine Ftw.w_isTN ?_
  | with_reducible refine Ftw.w_isTtt ?_
  | with_reducible refine Ftw.w_isTft ?_
  | with_reducible refine Ftw.w_isTtf ?_
  | with_reducible refine Ftw.w_isNS ?_
  | with_reducible refine Ftw.w_isNB ?_
  | ((with_reducible refine' Ftw.w_isiRS ?hq ?_); (case hq => assumption))
  | ((with_reducible refine' Ftw.w_isiRT ?hq ?_); (case hq => assumption))
  | ((with_reducible refine' Ftw.w_isiRI ?hq ?_); (case hq => assumption))
  | with_reducible refine Ftw.w_isiIT ?_
  | with_reducible refine Ftw.w_isiII ?_
  | with_reducible refine Dq.w_notNR ?_
  | with_reducible refine Dq.w_isNR ?_
  | with_reducible refine Dq.w_notNI ?_
  | with_reducible refine Dq.w_isNI ?_
  | with_reducible refine L2.w_neOs ?_
  | with_reducible refine w_ipI ?_
  | with_reducible refine w_eqS ?_
  | with_reducible refine w_neS ?_
  | with_reducible refine w_eqI ?_
  | with_reducible refine w_neI ?_
  | with_reducible refine w_eqB ?_
  | with_reducible refine w_neB ?_
  | ((with_reducible refine w_eq ?hs ?_); (case hs => rfl))
  | ((with_reducible refine w_ne ?hs ?_); (case hs => rfl))
  | with_reducible refine w_fld ?_
  | with_reducible refine w_bm ?_
  | with_reducible refine w_bm0 ?_
  | with_reducible refine w_sl ?_
  | with_reducible refine w_part ?_
  | with_reducible refine w_partI ?_
  | with_reducible refine w_nopart ?_
  | ((with_reducible refine' w_ixL ?hh ?ha ?_); (case hh => first | assumption | exact upd_same); (case ha => rfl))
  | ((with_reducible refine' w_setLu ?ha ?_); (case ha => rfl))
  | ((with_reducible refine' w_setL ?hh ?ha ?_); (case hh => first | assumption | exact upd_same); (case ha => rfl))
  | with_reducible refine w_iteT ?_
  | with_reducible refine w_iteF ?_
  | with_reducible refine w_lst ?_
  | with_reducible refine w_tup ?_
  | ((with_reducible refine w_new ?hz ?_); (case hz => rfl))
  | with_reducible refine w_lc ?_
  | with_reducible refine w_iL ?_
  | with_reducible refine w_iT ?_
  | with_reducible refine w_iR1 ?_
  | with_reducible refine w_iR2 ?_
  | with_reducible refine w_yes ?_
  | with_reducible refine w_iStr ?_
  | with_reducible exact tyS
  | with_reducible refine And.intro tyS ?_
  | ((with_reducible refine w_find3 ?_); (first | rw [find3_one] | rw [starts3] | skip))
  | ((with_reducible refine w_2s ?_); (try rw [find_one]))
  | ((with_reducible refine w_inS ?_); rw [S_list])
  | ((with_reducible refine w_lenS ?hz ?_); (case hz => first | assumption | omega | decide); rw [SX.S_len])
  | ((with_reducible refine w_addS ?hz ?_); (case hz => first | assumption | omega | decide); rw [vS_cat])
  | with_reducible refine w_mk ?_
  | with_reducible refine w_me ?_
  | with_reducible refine w_sfld ?_
  | ((with_reducible refine' w_gtup ?hh ?hn ?_); (case hh => first | assumption | exact upd_same); (case hn => rfl))
  | with_reducible refine w_gcons ?_
  | with_reducible refine w_gnil ?_
  | with_reducible refine w_repl ?_
  | with_reducible refine w_star ?_
  | with_reducible refine w_revL ?_
  | with_reducible refine w_isiS ?_
  | with_reducible refine w_isiI ?_
  | with_reducible refine w_isiN ?_
  | with_reducible refine w_chain ?_
  | with_reducible refine w_iEnumT ?_
  | with_reducible refine w_iZip3 ?_
  | with_reducible refine w_iZip ?_
  | with_reducible refine w_lenR3 ?_
  | with_reducible refine w_x1i ?_
  | with_reducible refine w_x1b ?_
  | with_reducible refine w_x1s ?_
  | with_reducible refine w_int1i ?_
  | with_reducible refine w_int1b ?_
  | ((with_reducible refine w_mod ?hc ?_); (case hc => omega))
  | ((with_reducible refine w_fdivW ?hc ?hd ?_); (case hc => omega); (case hd => omega))
  | ((with_reducible refine w_mul ?hc ?_); (case hc => first | exact Or.inr ⟨by decide, by decide⟩ | exact Or.inl ⟨by decide, by decide⟩))
  | ((with_reducible refine w_pow ?hc ?_); (case hc => exact ⟨by decide, by decide, by decide⟩)))
local macro_rules | `(tactic| walk_at "f1") => `(tactic| first
  | ((with_reducible refine' K24.g_rows ?hW ?hK ?hs ?hx ?_); (case hW => assumption); (case hK => rfl); (case hs => rfl); (case hx => first | assumption | exact upd_same))
  | ((with_reducible refine' K24.g_kept ?hW ?hK ?hs ?hx ?_); (case hW => assumption); (case hK => rfl); (case hs => rfl); (case hx => first | assumption | exact upd_same))
  | ((with_reducible refine' K24.g_origin ?hW ?hK ?hs ?hx ?_); (case hW => assumption); (case hK => rfl); (case hs => rfl); (case hx => first | assumption | exact upd_same))
  | ((with_reducible refine' K24.g_equals ?hW ?hK ?hs ?hx ?_); (case hW => assumption); (case hK => rfl); (case hs => rfl); (case hx => first | assumption | exact upd_same))
  | ((with_reducible refine' K24.g_low ?hW ?hK ?hs ?hx ?_); (case hW => assumption); (case hK => rfl); (case hs => rfl); (case hx => first | assumption | exact upd_same))
  | ((with_reducible refine' K24.g_high ?hW ?hK ?hs ?hx ?_); (case hW => assumption); (case hK => rfl); (case hs => rfl); (case hx => first | assumption | exact upd_same))
  | walk_at "e1")
local macro_rules | `(tactic| walk_at "s1") => `(tactic| first
  | with_reducible refine w_seq ?_
  | with_reducible refine w_asg ?_
  | with_reducible refine w_ret ?_
  | with_reducible refine w_par ?_
  | with_reducible refine w_drop ?_
  | with_reducible refine w_next ?_
  | with_reducible refine w_ifs ?_
  | ((with_reducible refine' w_aug ?hv ?_); (case hv => rfl))
  | with_reducible refine w_for ?_
  | walk_at "f1")
local macro_rules | `(tactic| walk_at "e") => `(tactic| repeat walk_at "e1")
local macro_rules | `(tactic| walk_at "g") => `(tactic| repeat walk_at "s1")
local macro_rules | `(tactic| walk_at "n1") => `(tactic| ((fail_if_success (with_reducible refine w_if ?_)); walk_at "s1"))
local macro_rules | `(tactic| walk_at "n") => `(tactic| repeat walk_at "n1")
local macro_rules | `(tactic| walk_at "p1") => `(tactic| ((fail_if_success (with_reducible refine w_ifs ?_)); walk_at "s1"))
local macro_rules | `(tactic| walk_at "p") => `(tactic| repeat walk_at "p1")
local macro_rules | `(tactic| walk_at "q1") => `(tactic| ((fail_if_success (with_reducible refine w_seq ?_)); walk_at "s1"))
local macro_rules | `(tactic| walk_at "q") => `(tactic| repeat walk_at "q1")

namespace K24
open Dc Gk M24 M5
def kdS (b : Bool) : Str := if b = true then Str.ofString "text" else Str.ofString "int"
/-- a value of the kind -/
def okK (b : Bool) (v : RV) : Prop := (v = .non ∨ isT v = b) ∧ okv v
def kdO (H : Hp) (kl : Addr) (kd : List Bool) : Prop := H kl = some (.lst (kd.map fun b => V.str (kdS b)))
def CWf (kd : List Bool) : Cd → Prop
  | .isn p => p < 3
  | .cmp _ l r => ∃ p, p < 3 ∧ ((l = .fld p ∧ r = .fld p) ∨ ∃ v, okK (kd.getD p false) v ∧ ((l = .fld p ∧ r = .lit v) ∨ (l = .lit v ∧ r = .fld p)))
theorem CWf.ok {kd : List Bool} {c : Cd} (h : CWf kd c) : okC c := by
  cases c with
  | isn p => trivial
  | cmp g l r =>
    obtain ⟨p, _, ⟨rfl, rfl⟩ | ⟨v, ⟨_, hv⟩, ⟨rfl, rfl⟩ | ⟨rfl, rfl⟩⟩⟩ := h
    · exact ⟨trivial, trivial⟩
    · exact ⟨trivial, hv⟩
    · exact ⟨hv, trivial⟩
def spLV : Sp := fun vs H Q _ => ∃ (d : Addr) (b : Bool), vs = [.ref d, .str (kdS b)] ∧ Dice H d ∧ ∀ v H', Kp d H H' → Dice H' d → okK b v → Q (vV v) H'
def spLL : Sp := fun vs H Q _ => ∃ v : RV, vs = [vV v] ∧ ∀ p, H p = none → Q (.ref p) (upd H p (.tup (litX v)))
def spCond : Sp := fun vs H Q _ => ∃ (d kl : Addr) (kd : List Bool), vs = [.ref d, .ref kl] ∧ Dice H d ∧ kd.length = 3 ∧ kdO H kl kd ∧ ∀ a c H', Kp d H H' → Dice H' d → CdO H' a c → CWf kd c → Q (.ref a) H'
theorem kl_ne {H : Hp} {d kl : Addr} {kd : List Bool} (hd : Dice H d) (h3 : kd.length = 3) (h : kdO H kl kd) : kl ≠ d := fun z => by
  obtain ⟨a, b, c, e⟩ := hd
  have h2 : H kl = _ := h
  rw [z, e] at h2
  match kd, h3 with
  | [x, y, u], _ =>
    have := Option.some.inj h2
    injection this with this
    injection this with this
    cases this
theorem sg_at {r : Int} (h0 : 0 ≤ r) (h1 : r < 7) : ∃ g : Sg, atI [V.str (Str.ofString "="), .str (Str.ofString "="), .str (Str.ofString "<"), .str (Str.ofString "<="), .str (Str.ofString ">"), .str (Str.ofString ">="), .str (Str.ofString "<>")] r = some (.str (sgS g)) := by
  have : r = 0 ∨ r = 1 ∨ r = 2 ∨ r = 3 ∨ r = 4 ∨ r = 5 ∨ r = 6 := by omega
  rcases this with rfl | rfl | rfl | rfl | rfl | rfl | rfl
  · exact ⟨.eq, rfl⟩
  · exact ⟨.eq, rfl⟩
  · exact ⟨.lt, rfl⟩
  · exact ⟨.le, rfl⟩
  · exact ⟨.gt, rfl⟩
  · exact ⟨.ge, rfl⟩
  · exact ⟨.ne, rfl⟩
theorem tx_at {r : Int} (h0 : 0 ≤ r) (h1 : r < 5) : ∃ l : List Nat, atI [V.str (Str.ofString ""), .str (Str.ofString "a"), .str (Str.ofString "ab"), .str (Str.ofString "b"), .str (Str.ofString "zz")] r = some (.str (S l)) ∧ okK true (.txt l) := by
  have : r = 0 ∨ r = 1 ∨ r = 2 ∨ r = 3 ∨ r = 4 := by omega
  have ok : ∀ l : List Nat, l.all (fun c => decide (c ∈ alphabet)) = true → l.length ≤ 10 → okK true (.txt l) := fun l h1 h2 => ⟨.inr rfl, fun c hc => of_decide_eq_true (List.all_eq_true.mp h1 c hc), h2⟩
  rcases this with rfl | rfl | rfl | rfl | rfl
  · exact ⟨[], by rw [← show (Str.ofString "") = S [] by decide +kernel]; rfl, ok _ (by decide +kernel) (by decide)⟩
  · exact ⟨[97], by rw [← show (Str.ofString "a") = S [97] by decide +kernel]; rfl, ok _ (by decide +kernel) (by decide)⟩
  · exact ⟨[97, 98], by rw [← show (Str.ofString "ab") = S [97, 98] by decide +kernel]; rfl, ok _ (by decide +kernel) (by decide)⟩
  · exact ⟨[98], by rw [← show (Str.ofString "b") = S [98] by decide +kernel]; rfl, ok _ (by decide +kernel) (by decide)⟩
  · exact ⟨[122, 122], by rw [← show (Str.ofString "zz") = S [122, 122] by decide +kernel]; rfl, ok _ (by decide +kernel) (by decide)⟩
section
variable {P : Program} {w : World} {K : PySem.W.Frag} {mg : Str → Option Value} {base : Heap} {ad : Ad}
theorem ok__law_value (W : Ws K mg ad) (c__law_roll : Cl P w K mg base 1 "_law_roll" spRoll) : Cl P w K mg base 2 "_law_value" spLV := by
  refine cl_mk W.d__law_value sc__law_value (fun _ _ _ _ _ _ us hl => match us, hl with | [_, _], _ => rfl) (fun vs H Q E h => ?_) (fun f cdv A outer s H vs Q E hr h => ?_)
  · obtain ⟨d, b, rfl, _⟩ := h; rfl
  obtain ⟨d, b, rfl, hd, q⟩ := h
  refine ⟨_, (pss_cons (ps_if (pt_cmpR op_eq (pe_cl c__law_roll hr (by first | decide | omega) rfl passL (pa_cons (pv 0) (pa_cons pe_int pa_nil))) pe_int (nomark _))
    (pss_one (ps_ret pe_non))
    pss_nil)
    (pss_one (ps_ret (pe_ifExp (pt_cmpR op_eq (pv 1) pe_str (nomark _)) (pe_ix ix_list (pe_lst (pa_cons pe_str (pa_cons pe_str (pa_cons pe_str (pa_cons pe_str (pa_cons pe_str pa_nil)))))) (pe_cl c__law_roll hr (by first | decide | omega) rfl passL (pa_cons (pv 0) (pa_cons pe_int pa_nil))) (fun _ _ => rfl)) (pe_op op_sub (pe_cl c__law_roll hr (by first | decide | omega) rfl passL (pa_cons (pv 0) (pa_cons pe_int pa_nil))) pe_int))))), ?_⟩
  walk_at "g"
  refine w_roll (by decide) (by decide) (Kp.refl d H) hd fun r H1 _ _ k1 _ d1 => ?_
  walk_at "g"
  refine w_iteD (fun c => ?_) (fun c => ?_)
  · walk_at "g"
    exact q .non H1 k1 d1 ⟨.inl rfl, trivial, trivial⟩
  cases b with
  | true =>
    rw [show kdS true = Str.ofString "text" from rfl]
    walk_at "g"
    intro L hL
    obtain ⟨k6, _, d6, nL, _, eL⟩ := newl (o := .lst [.str (Str.ofString ""), .str (Str.ofString "a"), .str (Str.ofString "ab"), .str (Str.ofString "b"), .str (Str.ofString "zz")]) k1 d1 hL rfl
    generalize upd H1 L (.lst [.str (Str.ofString ""), .str (Str.ofString "a"), .str (Str.ofString "ab"), .str (Str.ofString "b"), .str (Str.ofString "zz")]) = H6 at k6 d6 eL
    walk_at "g"
    refine w_roll (by decide) (by decide) k6 d6 fun r2 H7 r20 r21 k7 k67 d7 => ?_
    have eL7 := k67 L _ nL eL
    obtain ⟨l, h1, h2⟩ := tx_at r20 r21
    refine w_ixL eL7 h1 ?_
    exact q (.txt l) H7 k7 d7 h2
  | false =>
    rw [show kdS false = Str.ofString "int" from rfl]
    walk_at "g"
    refine w_roll (by decide) (by decide) k1 d1 fun r2 H7 r20 r21 k7 _ d7 => ?_
    walk_at "g"
    exact q (.num (r2 - 2)) H7 k7 d7 ⟨.inr rfl, ⟨by show -9223372036854775807 ≤ r2 - 2; omega, by show r2 - 2 ≤ 9223372036854775807; omega⟩, trivial⟩
theorem ok__law_literal (W : Ws K mg ad) : Cl P w K mg base 1 "_law_literal" spLL := by
  refine cl_mk W.d__law_literal sc__law_literal (fun _ _ _ _ _ _ us hl => match us, hl with | [_], _ => rfl) (fun vs H Q E h => ?_) (fun f cdv A outer s H vs Q E hr h => ?_)
  · obtain ⟨v, rfl, _⟩ := h; rfl
  obtain ⟨v, rfl, q⟩ := h
  refine ⟨_, (pss_one (ps_ret (pe_ifExp (pt_cmpR op_isN1 (pv 0) pe_non (nomark _)) (pe_tup (pa_cons pe_str pa_nil)) (pe_ifExp (pt_val (pe_callB L2.call_isi rfl W.n_isinstance PyProof.Rows.boot_isinstance (pa_cons (pv 0) (pa_cons (pe_bltn (v := .ty "str") rfl W.n_str (by decide +kernel) rfl) pa_nil)))) (pe_tup (pa_cons pe_str (pa_cons (pv 0) pa_nil))) (pe_tup (pa_cons pe_str (pa_cons (pv 0) pa_nil))))))), ?_⟩
  cases v with
  | non =>
    rw [show vV .non = V.non from rfl]
    walk_at "g"
    exact fun p hp => q p hp
  | txt l =>
    rw [show vV (.txt l) = V.str (S l) from rfl]
    walk_at "g"
    exact fun p hp => q p hp
  | num n =>
    rw [show vV (.num n) = V.int n from rfl]
    walk_at "g"
    exact fun p hp => q p hp
theorem ok__law_cond (W : Ws K mg ad) (c__law_roll : Cl P w K mg base 1 "_law_roll" spRoll) (c__law_value : Cl P w K mg base 2 "_law_value" spLV) (c__law_literal : Cl P w K mg base 1 "_law_literal" spLL) : Cl P w K mg base 3 "_law_cond" spCond := by
  refine cl_mk W.d__law_cond sc__law_cond (fun _ _ _ _ _ _ us hl => match us, hl with | [_, _], _ => rfl) (fun vs H Q E h => ?_) (fun f cdv A outer s H vs Q E hr h => ?_)
  · obtain ⟨d, kl, kd, rfl, _⟩ := h; rfl
  obtain ⟨d, kl, kd, rfl, hd, h3, hk, q⟩ := h
  refine ⟨_, (pss_cons (ps_set (i := 2) sc__law_cond.nd rfl (Or.inl rfl) (pe_cl c__law_roll hr (by first | decide | omega) rfl passL (pa_cons (pv 0) (pa_cons pe_int pa_nil))))
    (pss_cons (ps_set (i := 3) sc__law_cond.nd rfl (Or.inl rfl) (pe_ix ix_list (pe_lst (pa_cons pe_str (pa_cons pe_str (pa_cons pe_str (pa_cons pe_str (pa_cons pe_str (pa_cons pe_str (pa_cons pe_str pa_nil)))))))) (pe_cl c__law_roll hr (by first | decide | omega) rfl passL (pa_cons (pv 0) (pa_cons pe_int pa_nil))) (fun _ _ => rfl)))
    (pss_cons (ps_par (i := 4) (j := 5) (by rfl) sc__law_cond.nd rfl rfl (by decide) rfl rfl (pa_cons (pe_tup (pa_cons pe_str (pa_cons pe_int (pa_cons (pv 2) pa_nil)))) (pa_cons (pe_cl c__law_literal hr (by first | decide | omega) rfl passL (pa_cons (pe_cl c__law_value hr (by first | decide | omega) rfl passL (pa_cons (pv 0) (pa_cons (pe_ix ix_list (pv 1) (pv 2) (fun _ _ => rfl)) pa_nil))) pa_nil)) pa_nil)) (by rfl))
    (pss_cons (ps_if (pt_cmpR op_eq (pe_cl c__law_roll hr (by first | decide | omega) rfl passL (pa_cons (pv 0) (pa_cons pe_int pa_nil))) pe_int (nomark _))
    (pss_one (ps_ret (pe_tup (pa_cons pe_str (pa_cons (pv 4) (pa_cons pe_bl pa_nil))))))
    pss_nil)
    (pss_cons (ps_if (pt_cmpR op_eq (pe_cl c__law_roll hr (by first | decide | omega) rfl passL (pa_cons (pv 0) (pa_cons pe_int pa_nil))) pe_int (nomark _))
    (pss_one (ps_ret (pe_tup (pa_cons pe_str (pa_cons (pv 3) (pa_cons (pv 4) (pa_cons (pv 4) pa_nil)))))))
    pss_nil)
    (pss_one (ps_ret (pe_ifExp (pt_cmpR op_eq (pe_cl c__law_roll hr (by first | decide | omega) rfl passL (pa_cons (pv 0) (pa_cons pe_int pa_nil))) pe_int (nomark _)) (pe_tup (pa_cons pe_str (pa_cons (pv 3) (pa_cons (pv 4) (pa_cons (pv 5) pa_nil))))) (pe_tup (pa_cons pe_str (pa_cons (pv 3) (pa_cons (pv 5) (pa_cons (pv 4) pa_nil))))))))))))), ?_⟩
  have nk := kl_ne hd h3 hk
  walk_at "g"
  refine w_roll (by decide) (by decide) (Kp.refl d H) hd fun r H1 r0 r1 k1 _ d1 => ?_
  obtain ⟨p, rfl⟩ : ∃ p : Nat, r = (p : Int) := ⟨r.toNat, by omega⟩
  have hp3 : p < 3 := by omega
  walk_at "g"
  intro L hL
  obtain ⟨k2, _, d2, nL, _, eL⟩ := newl (o := .lst [.str (Str.ofString "="), .str (Str.ofString "="), .str (Str.ofString "<"), .str (Str.ofString "<="), .str (Str.ofString ">"), .str (Str.ofString ">="), .str (Str.ofString "<>")]) k1 d1 hL rfl
  generalize upd H1 L (.lst [.str (Str.ofString "="), .str (Str.ofString "="), .str (Str.ofString "<"), .str (Str.ofString "<="), .str (Str.ofString ">"), .str (Str.ofString ">="), .str (Str.ofString "<>")]) = H2 at k2 d2 eL
  walk_at "g"
  refine w_roll (by decide) (by decide) k2 d2 fun r2 H3 r20 r21 k3 k23 d3 => ?_
  have eL3 := k23 L _ nL eL
  obtain ⟨g, hg⟩ := sg_at r20 r21
  refine w_ixL eL3 hg ?_
  clear eL3 hg eL k23 k2 d2 k1 d1
  walk_at "g"
  intro F hF
  obtain ⟨k4, _, d4, nF, _, eF⟩ := newl (o := .tup [.str (Str.ofString "field"), .int 0, .int (p : Int)]) k3 d3 hF rfl
  generalize upd H3 F (.tup [.str (Str.ofString "field"), .int 0, .int (p : Int)]) = H4 at k4 d4 eF
  have fF : LfO H4 F (.fld p) := eF
  clear k3 d3 hF eF
  walk_at "g"
  refine w_ixL (k4 kl _ nk hk) (v := .str (kdS (kd.getD p false))) (atI_nat ?_) ?_
  · rw [List.getElem?_map, List.getD_eq_getElem?_getD, List.getElem?_eq_getElem (by omega)]
    rfl
  walk_at "g"
  refine ⟨d, _, rfl, d4, fun v H5 k45 d5 hv => ?_⟩
  have fF5 := fF.tk (Tk.kp k45 d4)
  have k5 := k4.trans k45
  clear fF k45 d4 k4
  walk_at "g"
  refine ⟨v, rfl, fun y hy => ?_⟩
  obtain ⟨k6, k56, d6, ny, _, ey⟩ := newl (o := .tup (litX v)) k5 d5 hy rfl
  have fF6 := fF5.tk (Tk.of (same_new hy (.tup (litX v))))
  generalize upd H5 y (.tup (litX v)) = H6 at k6 k56 d6 ey fF6
  have fy6 : LfO H6 y (.lit v) := ey
  clear fF5 k5 d5 k56 ey hy
  walk_at "g"
  refine ⟨_, _, rfl, ?_⟩
  walk_at "g"
  refine w_roll (by decide) (by decide) k6 d6 fun r3 H7 _ _ k7 k67 d7 => ?_
  have fF7 := fF6.tk (Tk.kp k67 d6)
  have fy7 := fy6.tk (Tk.kp k67 d6)
  clear fF6 fy6 k6 k67 d6
  walk_at "g"
  refine w_iteD (fun c => ?_) (fun c => ?_)
  · walk_at "g"
    intro z hz
    obtain ⟨k8, _, d8, _, _, ez⟩ := newl (o := .tup [.str (Str.ofString "isnull"), .ref F, .bl true]) k7 d7 hz rfl
    exact q z (.isn p) _ k8 d8 ⟨F, fF7.tk (Tk.of (same_new hz _)), ez⟩ hp3
  walk_at "g"
  refine w_roll (by decide) (by decide) k7 d7 fun r4 H8 _ _ k8 k78 d8 => ?_
  have fF8 := fF7.tk (Tk.kp k78 d7)
  have fy8 := fy7.tk (Tk.kp k78 d7)
  clear fF7 fy7 k7 k78 d7
  walk_at "g"
  refine w_iteD (fun c => ?_) (fun c => ?_)
  · walk_at "g"
    intro z hz
    obtain ⟨k9, _, d9, _, _, ez⟩ := newl (o := .tup [.str (Str.ofString "cmp"), .str (sgS g), .ref F, .ref F]) k8 d8 hz rfl
    exact q z (.cmp g (.fld p) (.fld p)) _ k9 d9 ⟨F, F, fF8.tk (Tk.of (same_new hz _)), fF8.tk (Tk.of (same_new hz _)), ez⟩ ⟨p, hp3, .inl ⟨rfl, rfl⟩⟩
  walk_at "g"
  refine w_roll (by decide) (by decide) k8 d8 fun r5 H9 _ _ k9 k89 d9 => ?_
  have fF9 := fF8.tk (Tk.kp k89 d8)
  have fy9 := fy8.tk (Tk.kp k89 d8)
  clear fF8 fy8 k8 k89 d8
  walk_at "g"
  refine w_iteD (fun c => ?_) (fun c => ?_)
  · walk_at "g"
    intro z hz
    obtain ⟨k10, _, d10, _, _, ez⟩ := newl (o := .tup [.str (Str.ofString "cmp"), .str (sgS g), .ref F, .ref y]) k9 d9 hz rfl
    exact q z (.cmp g (.fld p) (.lit v)) _ k10 d10 ⟨F, y, fF9.tk (Tk.of (same_new hz _)), fy9.tk (Tk.of (same_new hz _)), ez⟩ ⟨p, hp3, .inr ⟨v, hv, .inl ⟨rfl, rfl⟩⟩⟩
  · walk_at "g"
    intro z hz
    obtain ⟨k10, _, d10, _, _, ez⟩ := newl (o := .tup [.str (Str.ofString "cmp"), .str (sgS g), .ref y, .ref F]) k9 d9 hz rfl
    exact q z (.cmp g (.lit v) (.fld p)) _ k10 d10 ⟨y, F, fy9.tk (Tk.of (same_new hz _)), fF9.tk (Tk.of (same_new hz _)), ez⟩ ⟨p, hp3, .inr ⟨v, hv, .inr ⟨rfl, rfl⟩⟩⟩
end
end K24
end

section
-- part K24K0
set_option Elab.async false
set_option linter.all false
set_option maxRecDepth 100000
set_option maxHeartbeats 800000
open PySem PySem.Spec PyProof.Rows L2 Fw
local macro_rules | `(tactic| walk_at "e1") => `(tactic| first
  | ((with_reducible refine' w_var ?hv ?_); (case hv => rfl))
  | with_reducible refine w_c ?_
  | with_reducible refine w_op ?_
  | with_reducible refine w_un ?_
  | with_reducible refine w_cons ?_
  | with_reducible refine w_nil ?_
  | with_reducible refine w_cl ?_
  | with_reducible refine w_cb ?_
  | with_reducible refine w_gname ?_
  | with_reducible refine w_gsub ?_
  | with_reducible refine w_test ?_
  | with_reducible refine w_B ?_
  | with_reducible refine w_bl ?_
  | with_reducible refine w_and ?_
  | with_reducible refine w_or ?_
  | with_reducible refine w_not ?_
  | with_reducible refine w_if ?_
  | with_reducible refine w_I0 ?_
  | with_reducible refine Gk.w_rU ?_
  | with_reducible refine Dq.w_orV ?_
  | with_reducible refine Dq.w_js ?_
  | with_reducible refine Dq.w_js0 ?_
  | with_reducible refine Dq.w_fm ?_
  | with_reducible refine Dq.w_andV ?_
  | with_reducible refine Gk.w_iEnum ?_
  | with_reducible refine Dq.w_dget ?_
  | with_reducible refine Dq.w_dpop1 ?_
  | with_reducible refine Dq.w_ddel ?_
  | with_reducible refine Dq.w_din ?_
  | with_reducible refine Dq.w_dnotin ?_
  | with_reducible refine Dq.w_dget2 ?_
  | with_reducible refine Dq.w_dnew ?_
  | with_reducible refine Dq.w_fldaug ?_
  | with_reducible refine Dq.w_aSub ?_
  | with_reducible refine Dq.w_aAdd ?_
  | with_reducible refine Dq.w_mkd ?_
  | with_reducible refine Dq.w_notN0 ?_
  | with_reducible refine Dq.w_isN0 ?_
  | with_reducible refine Ftw.w_isTI ?_
  | with_reducible refine Ftw.w_isTS ?_
  | with_reducible refine Ftw.w_isTR ?_
  | with_reducible refine Ftw.w_isTN ?_
  | with_reducible refine Ftw.w_isTtt ?_
  | with_reducible refine Ftw.w_isTft ?_
  | with_reducible refine Ftw.w_isTtf ?_
  | with_reducible refine Ftw.w_isNS ?_
  | with_reducible refine Ftw.w_isNB ?_
  | ((with_reducible refine' Ftw.w_isiRS ?hq ?_); (case hq => assumption))
  | ((with_reducible refine' Ftw.w_isiRT ?hq ?_); (case hq => assumption))
  | ((with_reducible refine' Ftw.w_isiRI ?hq ?_); (case hq => assumption))
  | with_reducible refine Ftw.w_isiIT ?_
  | with_reducible refine Ftw.w_isiII ?_
  | with_reducible refine Dq.w_notNR ?_
  | with_reducible refine Dq.w_isNR ?_
  | with_reducible refine Dq.w_notNI ?_
  | with_reducible refine Dq.w_isNI ?_
  | with_reducible refine L2.w_neOs ?_
  | with_reducible refine w_ipI ?_
  | with_reducible refine w_eqS ?_
  | with_reducible refine w_neS ?_
  | with_reducible refine w_eqI ?_
  | with_reducible refine w_neI ?_
  | with_reducible refine w_eqB ?_
  | with_reducible refine w_neB ?_
  | ((with_reducible refine w_eq ?hs ?_); (case hs => rfl))
  | ((with_reducible refine w_ne ?hs ?_); (case hs => rfl))
  | with_reducible refine w_fld ?_
  | with_reducible refine w_bm ?_
  | with_reducible refine w_bm0 ?_
  | with_reducible refine w_sl ?_
  | with_reducible refine w_part ?_
  | with_reducible refine w_partI ?_
  | with_reducible refine w_nopart ?_
  | ((with_reducible refine' w_ixL ?hh ?ha ?_); (case hh => first | assumption | exact upd_same); (case ha => rfl))
  | ((with_reducible refine' w_setLu ?ha ?_); (case ha => rfl))
  | ((with_reducible refine' w_setL ?hh ?ha ?_); (case hh => first | assumption | exact upd_same); (case ha => rfl))
  | with_reducible refine w_iteT ?_
  | with_reducible refine w_iteF ?_
  | with_reducible refine w_lst ?_
  | with_reducible refine w_tup ?_
  | ((with_reducible refine w_new ?hz ?_); (case hz => rfl))
  | with_reducible refine w_lc ?_
  | with_reducible refine w_iL ?_
  | with_reducible refine w_iT ?_
  | with_reducible refine w_iR1 ?_
  | with_reducible refine w_iR2 ?_
  | with_reducible refine w_yes ?_
  | with_reducible refine w_iStr ?_
  | with_reducible exact tyS
  | with_reducible refine And.intro tyS ?_
  | ((with_reducible refine w_find3 ?_); (first | rw [find3_one] | rw [starts3] | skip))
  | ((with_reducible refine w_2s ?_); (try rw [find_one]))
  | ((with_reducible refine w_inS ?_); rw [S_list])
  | ((with_reducible refine w_lenS ?hz ?_); (case hz => first | assumption | omega | decide); rw [SX.S_len])
  | ((with_reducible refine w_addS ?hz ?_); (case hz => first | assumption | omega | decide); rw [vS_cat])
  | with_reducible refine w_mk ?_
  | with_reducible refine w_me ?_
  | with_reducible refine w_sfld ?_
  | ((with_reducible refine' w_gtup ?hh ?hn ?_); (case hh => first | assumption | exact upd_same); (case hn => rfl))
  | with_reducible refine w_gcons ?_
  | with_reducible refine w_gnil ?_
  | with_reducible refine w_repl ?_
  | with_reducible refine w_star ?_
  | with_reducible refine w_revL ?_
  | with_reducible refine w_isiS ?_
  | with_reducible refine w_isiI ?_
  | with_reducible refine w_isiN ?_
  | with_reducible refine w_chain ?_
  | with_reducible refine w_iEnumT ?_
  | with_reducible refine w_iZip3 ?_
  | with_reducible refine w_iZip ?_
  | with_reducible refine w_lenR3 ?_
  | with_reducible refine w_x1i ?_
  | with_reducible refine w_x1b ?_
  | with_reducible refine w_x1s ?_
  | with_reducible refine w_int1i ?_
  | with_reducible refine w_int1b ?_
  | ((with_reducible refine w_mod ?hc ?_); (case hc => omega))
  | ((with_reducible refine w_fdivW ?hc ?hd ?_); (case hc => omega); (case hd => omega))
  | ((with_reducible refine w_mul ?hc ?_); (case hc => first | exact Or.inr ⟨by decide, by decide⟩ | exact Or.inl ⟨by decide, by decide⟩))
  | ((with_reducible refine w_pow ?hc ?_); (case hc => exact ⟨by decide, by decide, by decide⟩)))
local macro_rules | `(tactic| walk_at "s1") => `(tactic| first
  | with_reducible refine w_seq ?_
  | with_reducible refine w_asg ?_
  | with_reducible refine w_ret ?_
  | with_reducible refine w_par ?_
  | with_reducible refine w_drop ?_
  | with_reducible refine w_next ?_
  | with_reducible refine w_ifs ?_
  | ((with_reducible refine' w_aug ?hv ?_); (case hv => rfl))
  | with_reducible refine w_for ?_
  | walk_at "e1")
local macro_rules | `(tactic| walk_at "e") => `(tactic| repeat walk_at "e1")
local macro_rules | `(tactic| walk_at "g") => `(tactic| repeat walk_at "s1")
local macro_rules | `(tactic| walk_at "n1") => `(tactic| ((fail_if_success (with_reducible refine w_if ?_)); walk_at "s1"))
local macro_rules | `(tactic| walk_at "n") => `(tactic| repeat walk_at "n1")

namespace K24
open Dc Gk M24 M5
def TW (kd : List Bool) (T : M24.Tm) : Prop := ∀ c ∈ conj T, CWf kd c
theorem TW.ok {kd : List Bool} {T : M24.Tm} (h : TW kd T) : okT T := okT_iff.mpr fun c hc => (h c hc).ok
def RowOk (kd : List Bool) (row : List RV) : Prop := row.length = 3 ∧ ∀ p v, row[p]? = some v → okK (kd.getD p false) v
theorem val_eq (row : List RV) (p : Nat) : M24.val row p = (row[p]?).getD .non := by
  unfold M24.val
  rw [List.getD_eq_getElem?_getD]
theorem rk_val {kd : List Bool} {row : List RV} (h : RowOk kd row) (p : Nat) : okK (kd.getD p false) (M24.val row p) := by
  rw [val_eq]
  cases e : row[p]? with
  | none => exact ⟨.inl rfl, trivial, trivial⟩
  | some v => exact h.2 p v e
theorem rk_get {kd : List Bool} {row : List RV} (h : RowOk kd row) {p : Nat} (hp : p < 3) : row[p]? = some (M24.val row p) := by
  rw [val_eq, List.getElem?_eq_getElem (by rw [h.1]; exact hp)]
  rfl
theorem okK_fit {b : Bool} {u v : RV} (hu : okK b u) (hv : okK b v) : Fit u v := by
  rcases hu.1 with h | h
  · exact .inl h
  rcases hv.1 with h2 | h2
  · exact .inr (.inl h2)
  · exact .inr (.inr (h.trans h2.symm))
section
variable {kd : List Bool} {row : List RV} {H : Hp}
theorem cd_tv (hr : RowOk kd row) {a : Addr} {c : Cd} (h : CdO H a c) (hw : CWf kd c) : TV row H 1 a (oV (cdv row c)) := by
  cases c with
  | isn p =>
    obtain ⟨x, h1, h2⟩ := h
    exact .isn h2 (.fld h1 (rk_get hr hw))
  | cmp g l r =>
    obtain ⟨x, y, h1, h2, h3⟩ := h
    obtain ⟨p, hp, ⟨rfl, rfl⟩ | ⟨v, hv, ⟨rfl, rfl⟩ | ⟨rfl, rfl⟩⟩⟩ := hw
    · exact .cmp h3 (.fld h1 (rk_get hr hp)) (.fld h2 (rk_get hr hp)) (okK_fit (rk_val hr p) (rk_val hr p))
    · exact .cmp h3 (.fld h1 (rk_get hr hp)) (.lit h2) (okK_fit (rk_val hr p) hv)
    · exact .cmp h3 (.lit h1) (.fld h2 (rk_get hr hp)) (okK_fit hv (rk_val hr p))
theorem tm_tv (hr : RowOk kd row) : ∀ {a : Addr} {T : M24.Tm}, TmO H a T → TW kd T → TV row H (dep T + 1) a (oV (tmv row T))
  | _, .cd c, h, hw => cd_tv hr h (hw c (by simp [conj]))
  | _, .and T c, h, hw => by
    obtain ⟨x, y, h1, h2, h3⟩ := h
    exact .and h3 (tm_tv hr h1 fun d hd => hw d (by simp [conj, hd])) ((cd_tv hr h2 (hw c (by simp [conj]))).le (Nat.succ_le_succ (Nat.zero_le _)))
end
def insB (B : Bd) (key : List Int) : Bool := match krange B with
  | none => false
  | some (l, h) => !HT.lexLt key l && (match h with
    | none => true
    | some d => HT.lexLt key d)
def sds (T : M24.Tm) : List Side := (conj T).filterMap sideOf
theorem sds_ok {kd : List Bool} {T : M24.Tm} (hw : TW kd T) : ∀ s ∈ sds T, okv s.2.2 ∧ s.1 < 3 := by
  intro s hs
  obtain ⟨c, hc, h⟩ := List.mem_filterMap.mp hs
  have w := hw c hc
  cases c with
  | isn p => cases h
  | cmp g l r =>
    obtain ⟨p, hp, ⟨rfl, rfl⟩ | ⟨v, hv, ⟨rfl, rfl⟩ | ⟨rfl, rfl⟩⟩⟩ := w
    · cases h
    · have h2 : (if g = .ne then none else some (p, g, v)) = some s := h
      by_cases c : g = .ne
      · rw [if_pos c] at h2; cases h2
      · rw [if_neg c] at h2; cases h2; exact ⟨hv.2, hp⟩
    · have h2 : (if g = .ne then none else some (p, turn g, v)) = some s := h
      by_cases c : g = .ne
      · rw [if_pos c] at h2; cases h2
      · rw [if_neg c] at h2; cases h2; exact ⟨hv.2, hp⟩
theorem ask_ok {kd : List Bool} {T : M24.Tm} (hw : TW kd T) {ps : List Nat} (hp : ps.length ≤ 10) : BdOk (askB (sds T) ps) := by
  obtain ⟨h1, h2, h3⟩ := ask_in (sds T) ps
  refine ⟨fun v hv => ?_, Nat.le_trans (ask_len _ _) hp, fun b hb => ?_, fun b hb => ?_⟩
  · obtain ⟨p, h⟩ := h1 v hv
    exact (sds_ok hw _ h).1
  · obtain ⟨h4, p, h5⟩ := h2 b.1 b.2 hb
    exact ⟨h4, (sds_ok hw _ h5).1⟩
  · obtain ⟨h4, p, h5⟩ := h3 b.1 b.2 hb
    exact ⟨h4, (sds_ok hw _ h5).1⟩
def keyOf (row : List RV) (ps : List Nat) (t : Nat) : List Int := keyR (ps.map (val row)) ++ keyR [.num (t : Int)]
theorem num_ok {t : Nat} (h : t < 1000) : okv (.num (t : Int)) := ⟨⟨by show -9223372036854775807 ≤ (t : Int); omega, by show (t : Int) ≤ 9223372036854775807; omega⟩, trivial⟩
theorem claimA {kd : List Bool} {row : List RV} {T : M24.Tm} {ps : List Nat} {t : Nat} (hr : RowOk kd row) (hw : TW kd T) (ht : t < 1000) (hm : tmv row T = some true) : insB (askB (sds T) ps) (keyOf row ps t) = true := by
  have h1 := (tmv_true T).mp hm
  obtain ⟨rest, e, he, hlo, hhi⟩ := ask_meets (ks := sds T) (vl := val row) (fun p => (rk_val hr p).2.1) (fun s hs => by
    obtain ⟨c, hc, h⟩ := List.mem_filterMap.mp hs
    exact ⟨(sds_ok hw s hs).1.1, side_meets h (h1 c hc)⟩) ps
  have hrest : ∀ v ∈ rest, okV v := fun v hv => by
    have : v ∈ ps.map (val row) := by rw [e]; exact List.mem_append_right _ hv
    obtain ⟨p, _, rfl⟩ := List.mem_map.mp this
    exact (rk_val hr p).2.1
  obtain ⟨l, h, k1, k2, k3⟩ := meets_in (tl := keyR [.num (t : Int)]) he hrest (keyR_byt fun v hv => by rw [List.mem_singleton.mp hv]; exact (num_ok ht).1) hlo hhi
  unfold insB keyOf
  rw [e]
  have k1' : krange (askB (sds T) ps) = some (l, h) := k1
  rw [k1']
  dsimp only
  rw [k2]
  cases h with
  | none => rfl
  | some d =>
    show (!false && HT.lexLt _ d) = true
    rw [k3 d rfl]
    rfl
theorem claimB {kd : List Bool} {row : List RV} {T : M24.Tm} {ps : List Nat} {t : Nat} (hr : RowOk kd row) (hw : TW kd T) (hp : ps.length ≤ 10) (ht : t < 1000) (hi : insB (askB (sds T) ps) (keyOf row ps t) = true) :
    ∀ (i : Nat) (v : RV) (p : Nat), (askB (sds T) ps).1[i]? = some v → ps[i]? = some p → val row p = v ∧ v ≠ .non := by
  unfold insB at hi
  cases hk : krange (askB (sds T) ps) with
  | none => rw [hk] at hi; cases hi
  | some lh =>
    obtain ⟨l, h⟩ := lh
    rw [hk] at hi
    obtain ⟨i1, i2⟩ := Bool.and_eq_true_iff.mp hi
    have i1' : HT.lexLt (keyOf row ps t) l = false := by simpa using i1
    have ok := ask_ok hw hp
    obtain ⟨j1, j2⟩ := inside_eq (vals := ps.map (val row)) (tl := keyR [.num (t : Int)]) hk (fun v hv => (ok.eqs v hv).1) (fun v hv => by
      obtain ⟨p, _, rfl⟩ := List.mem_map.mp hv
      exact (rk_val hr p).2.1) (keyR_byt fun v hv => by rw [List.mem_singleton.mp hv]; exact (num_ok ht).1) (by rw [List.length_map]; exact ask_len _ _) i1' (fun x hx => by rw [hx] at i2; exact i2)
    intro i v p hv hpp
    refine ⟨?_, j2 v (List.mem_of_getElem? hv)⟩
    have hlt := (List.getElem?_eq_some_iff.mp hv).1
    rw [← j1, List.getElem?_take, if_pos hlt, List.getElem?_map, hpp] at hv
    exact Option.some.inj hv
/-- the literals that must be equal at a place -/
def eqsOf (ks : List Side) (p : Nat) : List RV := (ks.filter fun s => decide (s.1 = p) && isEq s.2.1).map (·.2.2)
theorem eqs_first (ks : List Side) (p : Nat) : (firstB isEq (here ks p)).map (·.2) = (eqsOf ks p).head? := by
  induction ks with
  | nil => rfl
  | cons s r ih =>
    unfold firstB here eqsOf at ih ⊢
    by_cases c1 : s.1 = p
    · by_cases c2 : isEq s.2.1 = true
      · simp [c1, c2]
      · have c3 : isEq s.2.1 = false := by simpa using c2
        simp only [List.filter_cons, c1, c3, decide_true, Bool.and_false, Bool.false_eq_true, if_false, if_true, List.map_cons, List.find?_cons]
        exact ih
    · simp only [List.filter_cons, c1, decide_false, Bool.false_and, Bool.false_eq_true, if_false]
      exact ih
theorem ask_k (ks : List Side) : ∀ (ps : List Nat) (k p : Nat), ps[k]? = some p → (∀ v, (askB ks ps).1[k]? = some v → (eqsOf ks p).head? = some v) ∧ (k = (askB ks ps).1.length → eqsOf ks p = [])
  | [], k, p, h => by cases h
  | q :: ps, k, p, h => by
    have ef := eqs_first ks q
    rw [askB]
    cases e : firstB isEq (here ks q) with
    | none =>
      refine ⟨fun v hv => (by cases hv), fun hk => ?_⟩
      have hk0 : k = 0 := hk
      subst hk0
      cases h
      rw [e] at ef
      exact List.head?_eq_none_iff.mp ef.symm
    | some s =>
      rw [e] at ef
      cases k with
      | zero =>
        cases h
        refine ⟨fun v hv => ?_, fun hk => (by cases hk)⟩
        cases hv
        exact ef.symm
      | succ k =>
        obtain ⟨i1, i2⟩ := ask_k ks ps k p h
        exact ⟨fun v hv => i1 v hv, fun hk => i2 (Nat.succ.inj hk)⟩
/-! bounds as data -/
def dBo : Option (Sg × RV) → PyData
  | none => .none
  | some (g, r) => .tuple [.str (sgS g), dLf (.lit r)]
theorem bo_dp {K : PySem.W.Frag} {H : Hp} {v : V} {o : Option (Sg × RV)} (h : BdO H v o) : Dp K H v (dBo o) := by
  rcases o with _ | ⟨g, r⟩
  · have h2 : v = .non := h
    subst h2
    exact .non
  · obtain ⟨z, a, rfl, h1, h2⟩ := h
    exact .tup (SqT.of h1) (.cons (.str _) (.cons (lf_dp h2) .nil))
theorem bo_fine {o : Option (Sg × RV)} (h : ∀ b, o = some b → okv b.2) : Fine 2 (dBo o) := by
  rcases o with _ | ⟨g, r⟩
  · exact Fine.non.le (by decide)
  · exact fine2 ((sg_fine g).le (by decide)) (lf_fine (l := .lit r) (h _ rfl))
theorem bo_eqv {es : List PyData} {o1 o2 : Option (Sg × RV)} : PyData.eqv (.tuple [.tuple es, dBo o1, dBo o2]) (.tuple [.tuple [], .none, .none]) = (decide (es = []) && (o1.isNone && o2.isNone)) := by
  show (PyData.eqvAll es [] && (PyData.eqv (dBo o1) .none && (PyData.eqv (dBo o2) .none && true))) = _
  rw [eqv_nil]
  rcases o1 with _ | ⟨g1, r1⟩ <;> rcases o2 with _ | ⟨g2, r2⟩ <;> simp [dBo, PyData.eqv]
theorem w_isTO {H : Hp} {Q : VK} {x : Option Bool} (q : Q (.bl (decide (x = some true))) H) : Ftx.rIsT (oV x) (.bl true) H Q := ⟨true, rfl, by
  have e : decide (oV x = V.bl true) = decide (x = some true) := decide_eq_decide.mpr ⟨fun h => by
    rcases x with _ | _ | _
    · cases h
    · cases h
    · rfl, fun h => by rw [h]; rfl⟩
  rw [e]
  exact q⟩
theorem in012 {p : Nat} (h : p < 3) : inV (.int (p : Int)) [.int 0, .int 1, .int 2] = true := by
  have : p = 0 ∨ p = 1 ∨ p = 2 := by omega
  rcases this with rfl | rfl | rfl <;> rfl
theorem noF (bs : List Bool) (h : ∀ b ∈ bs, b = true) : inV (.bl false) (bs.map V.bl) = false := by
  induction bs with
  | nil => rfl
  | cons b r ih =>
    unfold inV at ih ⊢
    rw [List.map_cons, List.any_cons, ih fun x hx => h x (List.mem_cons_of_mem _ hx), h b List.mem_cons_self]
    rfl
theorem bl_flat (bs : List Bool) : (bs.map V.bl).all flatV = true := by
  induction bs with
  | nil => rfl
  | cons b r ih => rw [List.map_cons, List.all_cons, ih]; rfl
end K24
end

section
-- part K24K1
set_option Elab.async false
set_option linter.all false
set_option maxRecDepth 100000
set_option maxHeartbeats 800000
open PySem PySem.Spec PyProof.Rows L2 Fw
local macro_rules | `(tactic| walk_at "e1") => `(tactic| first
  | ((with_reducible refine' w_var ?hv ?_); (case hv => rfl))
  | with_reducible refine w_c ?_
  | with_reducible refine w_op ?_
  | with_reducible refine w_un ?_
  | with_reducible refine w_cons ?_
  | with_reducible refine w_nil ?_
  | with_reducible refine w_cl ?_
  | with_reducible refine w_cb ?_
  | with_reducible refine w_gname ?_
  | with_reducible refine w_gsub ?_
  | with_reducible refine w_test ?_
  | with_reducible refine w_B ?_
  | with_reducible refine w_bl ?_
  | with_reducible refine w_and ?_
  | with_reducible refine w_or ?_
  | with_reducible refine w_not ?_
  | with_reducible refine w_if ?_
  | with_reducible refine w_I0 ?_
  | with_reducible refine Gk.w_rU ?_
  | with_reducible refine Dq.w_orV ?_
  | with_reducible refine Dq.w_js ?_
  | with_reducible refine Dq.w_js0 ?_
  | with_reducible refine Dq.w_fm ?_
  | with_reducible refine Dq.w_andV ?_
  | with_reducible refine Gk.w_iEnum ?_
  | with_reducible refine Dq.w_dget ?_
  | with_reducible refine Dq.w_dpop1 ?_
  | with_reducible refine Dq.w_ddel ?_
  | with_reducible refine Dq.w_din ?_
  | with_reducible refine Dq.w_dnotin ?_
  | with_reducible refine Dq.w_dget2 ?_
  | with_reducible refine Dq.w_dnew ?_
  | with_reducible refine Dq.w_fldaug ?_
  | with_reducible refine Dq.w_aSub ?_
  | with_reducible refine Dq.w_aAdd ?_
  | with_reducible refine Dq.w_mkd ?_
  | with_reducible refine Dq.w_notN0 ?_
  | with_reducible refine Dq.w_isN0 ?_
  | with_reducible refine Ftw.w_isTI ?_
  | with_reducible refine Ftw.w_isTS ?_
  | with_reducible refine Ftw.w_isTR ?_
  | with_reducible refine Ftw.w_isTN ?_
  | with_reducible refine Ftw.w_isTtt ?_
  | with_reducible refine Ftw.w_isTft ?_
  | with_reducible refine Ftw.w_isTtf ?_
  | with_reducible refine Ftw.w_isNS ?_
  | with_reducible refine Ftw.w_isNB ?_
  | ((with_reducible refine' Ftw.w_isiRS ?hq ?_); (case hq => assumption))
  | ((with_reducible refine' Ftw.w_isiRT ?hq ?_); (case hq => assumption))
  | ((with_reducible refine' Ftw.w_isiRI ?hq ?_); (case hq => assumption))
  | with_reducible refine Ftw.w_isiIT ?_
  | with_reducible refine Ftw.w_isiII ?_
  | with_reducible refine Dq.w_notNR ?_
  | with_reducible refine Dq.w_isNR ?_
  | with_reducible refine Dq.w_notNI ?_
  | with_reducible refine Dq.w_isNI ?_
  | with_reducible refine L2.w_neOs ?_
  | with_reducible refine w_ipI ?_
  | with_reducible refine w_eqS ?_
  | with_reducible refine w_neS ?_
  | with_reducible refine w_eqI ?_
  | with_reducible refine w_neI ?_
  | with_reducible refine w_eqB ?_
  | with_reducible refine w_neB ?_
  | ((with_reducible refine w_eq ?hs ?_); (case hs => rfl))
  | ((with_reducible refine w_ne ?hs ?_); (case hs => rfl))
  | with_reducible refine w_fld ?_
  | with_reducible refine w_bm ?_
  | with_reducible refine w_bm0 ?_
  | with_reducible refine w_sl ?_
  | with_reducible refine w_part ?_
  | with_reducible refine w_partI ?_
  | with_reducible refine w_nopart ?_
  | ((with_reducible refine' w_ixL ?hh ?ha ?_); (case hh => first | assumption | exact upd_same); (case ha => rfl))
  | ((with_reducible refine' w_setLu ?ha ?_); (case ha => rfl))
  | ((with_reducible refine' w_setL ?hh ?ha ?_); (case hh => first | assumption | exact upd_same); (case ha => rfl))
  | with_reducible refine w_iteT ?_
  | with_reducible refine w_iteF ?_
  | with_reducible refine w_lst ?_
  | with_reducible refine w_tup ?_
  | ((with_reducible refine w_new ?hz ?_); (case hz => rfl))
  | with_reducible refine w_lc ?_
  | with_reducible refine w_iL ?_
  | with_reducible refine w_iT ?_
  | with_reducible refine w_iR1 ?_
  | with_reducible refine w_iR2 ?_
  | with_reducible refine w_yes ?_
  | with_reducible refine w_iStr ?_
  | with_reducible exact tyS
  | with_reducible refine And.intro tyS ?_
  | ((with_reducible refine w_find3 ?_); (first | rw [find3_one] | rw [starts3] | skip))
  | ((with_reducible refine w_2s ?_); (try rw [find_one]))
  | ((with_reducible refine w_inS ?_); rw [S_list])
  | ((with_reducible refine w_lenS ?hz ?_); (case hz => first | assumption | omega | decide); rw [SX.S_len])
  | ((with_reducible refine w_addS ?hz ?_); (case hz => first | assumption | omega | decide); rw [vS_cat])
  | with_reducible refine w_mk ?_
  | with_reducible refine w_me ?_
  | with_reducible refine w_sfld ?_
  | ((with_reducible refine' w_gtup ?hh ?hn ?_); (case hh => first | assumption | exact upd_same); (case hn => rfl))
  | with_reducible refine w_gcons ?_
  | with_reducible refine w_gnil ?_
  | with_reducible refine w_repl ?_
  | with_reducible refine w_star ?_
  | with_reducible refine w_revL ?_
  | with_reducible refine w_isiS ?_
  | with_reducible refine w_isiI ?_
  | with_reducible refine w_isiN ?_
  | with_reducible refine w_chain ?_
  | with_reducible refine w_iEnumT ?_
  | with_reducible refine w_iZip3 ?_
  | with_reducible refine w_iZip ?_
  | with_reducible refine w_lenR3 ?_
  | with_reducible refine w_x1i ?_
  | with_reducible refine w_x1b ?_
  | with_reducible refine w_x1s ?_
  | with_reducible refine w_int1i ?_
  | with_reducible refine w_int1b ?_
  | ((with_reducible refine w_mod ?hc ?_); (case hc => omega))
  | ((with_reducible refine w_fdivW ?hc ?hd ?_); (case hc => omega); (case hd => omega))
  | ((with_reducible refine w_mul ?hc ?_); (case hc => first | exact Or.inr ⟨by decide, by decide⟩ | exact Or.inl ⟨by decide, by decide⟩))
  | ((with_reducible refine w_pow ?hc ?_); (case hc => exact ⟨by decide, by decide, by decide⟩)))
local macro_rules | `(tactic| walk_at "s1") => `(tactic| first
  | with_reducible refine w_seq ?_
  | with_reducible refine w_asg ?_
  | with_reducible refine w_ret ?_
  | with_reducible refine w_par ?_
  | with_reducible refine w_drop ?_
  | with_reducible refine w_next ?_
  | with_reducible refine w_ifs ?_
  | ((with_reducible refine' w_aug ?hv ?_); (case hv => rfl))
  | with_reducible refine w_for ?_
  | walk_at "e1")
local macro_rules | `(tactic| walk_at "e") => `(tactic| repeat walk_at "e1")
local macro_rules | `(tactic| walk_at "g") => `(tactic| repeat walk_at "s1")
local macro_rules | `(tactic| walk_at "n1") => `(tactic| ((fail_if_success (with_reducible refine w_if ?_)); walk_at "s1"))
local macro_rules | `(tactic| walk_at "n") => `(tactic| repeat walk_at "n1")

namespace K24
open Dc Gk M24 M5
def FdO (K : PySem.W.Frag) (H : Hp) (v : V) : Option (List Int × Option (List Int)) → Prop
  | none => v = .non
  | some (l, h) => ∃ p la hv, v = .ref p ∧ H p = some (.tup [.ref la, hv]) ∧ SqT K H la (l.map V.int) ∧ HiO K H hv h
theorem FdO.tk {K : PySem.W.Frag} {H H' : Hp} {v : V} {o : Option (List Int × Option (List Int))} (h : FdO K H v o) (t : Tk H H') : FdO K H' v o := by
  rcases o with _ | ⟨l, hh⟩
  · exact h
  · obtain ⟨p, la, hv, h1, h2, h3, h4⟩ := h
    exact ⟨p, la, hv, h1, tup_tk h2 t, sqT_tk h3 t, h4.tk t⟩
def spKR2 (ad : Ad) (K : PySem.W.Frag) : Sp := fun vs H Q _ => ∃ (b e : Addr) (B : Bd) (m : Nat), vs = [.ref b, .ref e] ∧ BoO ad H b B ∧ EvA K ad H e m ∧ m ≤ 99 ∧ BdOk B ∧ ∀ v H', Same H H' → FdO K H' v (krange B) → Q v H'
def spSided2 : Sp := fun vs H Q _ => ∃ (t : Addr) (c : Cd), vs = [.ref t] ∧ CdO H t c ∧ okC c ∧ ∀ (o : SV) H', Same H H' → SvO H' o → o.map (·.2.2) = sideOf c → Q (svV o) H'
section
variable {P : Program} {w : World} {K : PySem.W.Frag} {mg : Str → Option Value} {base : Heap} {ad : Ad}
theorem kr2 {k : Nat} (c : Cl P w K mg base k "key_range" (spKR ad K)) : Cl P w K mg base k "key_range" (spKR2 ad K) := c.imp fun vs H Q E h => by
  obtain ⟨b, e, B, m, rfl, h1, h2, h3, h4, q⟩ := h
  refine ⟨b, e, B, m, rfl, h1, h2, h3, h4, ?_⟩
  cases hk : krange B with
  | none => exact fun H' s => q .non H' s (by rw [hk]; rfl)
  | some lh => exact fun p la hv H' s a1 a2 a3 => q (.ref p) H' s (by rw [hk]; exact ⟨p, la, hv, rfl, a1, a2, a3⟩)
theorem sided2 {k : Nat} (c : Cl P w K mg base k "sided" spSided) : Cl P w K mg base k "sided" spSided2 := c.imp fun vs H Q E h => by
  obtain ⟨t, c, rfl, h1, h2, q⟩ := h
  refine ⟨t, c, rfl, h1, h2, ?_⟩
  cases hs : sideOf c with
  | none => exact fun H' s => q none H' s (fun k z => by cases z) hs.symm
  | some s' => exact fun x a H' s sd => q (some (x, a, s')) H' s (fun k z => by cases z; exact sd) hs.symm
end
def spLaw (K : PySem.W.Frag) : Sp := fun vs H Q _ => ∃ (a : Addr) (ns : List Int), vs = [.ref a] ∧ SqL K H a (ns.map V.int) ∧ ns.length ≤ 63 ∧ ∀ H', Q (.bl true) H'
structure Good (p : Addr) (dcs : List Addr) (Hc : Hp) : Prop where
  lst : Hc p = some (.lst (dcs.map V.ref))
  dice : ∀ d ∈ dcs, Dice Hc d
theorem Good.ne {p d : Addr} {dcs : List Addr} {Hc : Hp} (g : Good p dcs Hc) (hd : Dice Hc d) : p ≠ d := fun z => by
  obtain ⟨a, b, c, e⟩ := hd
  have h := g.lst
  rw [z, e] at h
  have h2 := Option.some.inj h
  injection h2 with h2
  cases dcs with
  | nil => cases h2
  | cons x r => cases h2
theorem Good.kp {p d : Addr} {dcs : List Addr} {Hc H' : Hp} (g : Good p dcs Hc) (hd : Dice Hc d) (k : Kp d Hc H') (d' : Dice H' d) : Good p dcs H' := by
  refine ⟨k _ _ (g.ne hd) g.lst, fun x hx => ?_⟩
  by_cases z : x = d
  · rw [z]; exact d'
  · obtain ⟨a, b, c, e⟩ := g.dice x hx
    exact ⟨a, b, c, k _ _ z e⟩
theorem w_disp {trs : List (TE × TE)} {σ : L2.St} {H : Hp} {Q : VK} (h : ∀ p, H p = none → tPairs trs σ (upd H p (.dK [])) fun ps H2 => H2 p = some (.dK []) ∧ ∃ kvs : List (Key × V), ps = kvs.map (fun kv => (kV kv.1, kv.2)) ∧ kvs.length ≤ 15 ∧ Q (.ref p) (upd H2 p (.dK (mergeK [] kvs)))) : tDisp trs σ H Q := h
theorem w_pr {tk tv : TE} {r : List (TE × TE)} {σ : L2.St} {H : Hp} {Q : List (V × V) → Hp → Prop} (h : tk σ H fun x H1 => tv σ H1 fun y H2 => tPairs r σ H2 fun ps H3 => Q ((x, y) :: ps) H3) : tPairs ((tk, tv) :: r) σ H Q := h
theorem w_pr0 {σ : L2.St} {H : Hp} {Q : List (V × V) → Hp → Prop} (h : Q [] H) : tPairs [] σ H Q := h
/-- {'t': n} -/
theorem w_dispT {i : Nat} {n : Int} {σ : L2.St} {H : Hp} {Q : VK} {tv : TE} (hv : ∀ (H' : Hp) (R : VK), R (.int n) H' → tv σ H' R) (q : ∀ p H', Same H H' → H' p = some (.dK [(kT, V.int n)]) → Q (.ref p) H') : tDisp [(tC (.str (Str.ofString "t")), tv)] σ H Q := by
  refine w_disp fun p hp => ?_
  refine w_pr ?_
  refine w_c ?_
  refine hv _ _ ?_
  refine w_pr0 ⟨upd_same, [(kT, .int n)], rfl, by show 1 ≤ 15; decide, ?_⟩
  rw [upd_upd]
  exact q p _ (same_new hp _) upd_same
theorem val_t (n : Int) : (valV [(kT, V.int n)] kT).getD (.int 0) = .int n := by simp [valV]
theorem eqs_step {ks : List (Addr × Addr × Side)} {j : Nat} {k : Addr × Addr × Side} (h : ks[j]? = some k) (p : Nat) : eqsOf ((ks.take (j + 1)).map (·.2.2)) p = eqsOf ((ks.take j).map (·.2.2)) p ++ (if k.2.2.1 = p ∧ k.2.2.2.1 = .eq then [k.2.2.2.2] else []) := by
  unfold eqsOf
  rw [List.take_add_one, h, List.map_append, List.filter_append, List.map_append]
  congr 1
  by_cases c : k.2.2.1 = p <;> by_cases c2 : k.2.2.2.1 = .eq <;> simp [c, c2, isEq]
theorem bo_shaped {B : Bd} (ok : BdOk B) {as : List (Addr × RV)} (h : as.map (·.2) = B.1) : Fine 3 (.tuple [.tuple (as.map fun p => dLf (.lit p.2)), dBo B.2.1, dBo B.2.2]) := by
  refine fine3 (Fine.tup fun d hd => ?_) (bo_fine fun b hb => (ok.lo b hb).2) (bo_fine fun b hb => (ok.hi b hb).2)
  obtain ⟨p, hp, rfl⟩ := List.mem_map.mp hd
  exact lf_fine (l := .lit p.2) (ok.eqs p.2 (by rw [← h]; exact List.mem_map.mpr ⟨p, hp, rfl⟩))
theorem opn_eq {B : Bd} {as : List (Addr × RV)} (h : as.map (·.2) = B.1) : (decide ((as.map fun p => dLf (.lit p.2)) = []) && (B.2.1.isNone && B.2.2.isNone)) = opn B := by
  unfold opn
  rw [← h]
  congr 1
  exact decide_eq_decide.mpr ⟨fun z => by rw [List.map_eq_nil_iff.mp z]; rfl, fun z => by rw [List.map_eq_nil_iff.mp z]; rfl⟩
end K24
end

section
-- part K24K
set_option Elab.async false
set_option linter.all false
set_option maxRecDepth 100000
set_option maxHeartbeats 800000
open PySem PySem.Spec PyProof.Rows L2 Fw
local macro_rules | `(tactic| walk_at "e1") => `(tactic| first
  | ((with_reducible refine' w_var ?hv ?_); (case hv => rfl))
  | ((with_reducible refine' K24.w_ixA ?hh ?ha ?_); (case hh => first | assumption | exact upd_same); (case ha => rfl))
  | ((with_reducible refine' K24.w_eqLF ?hl ?_); (case hl => decide +kernel))
  | ((with_reducible refine' K24.w_eqLT ?hl ?_); (case hl => rfl))
  | ((with_reducible refine' K24.w_neLF ?hl ?_); (case hl => decide +kernel))
  | ((with_reducible refine' K24.w_neLT ?hl ?_); (case hl => rfl))
  | with_reducible refine Fw.w_notV ?_
  | with_reducible refine F24.w_iZipM ?_
  | with_reducible refine F24.w_iZipA ?_
  | with_reducible refine Fge.w_cld ?_
  | with_reducible refine w_c ?_
  | with_reducible refine w_op ?_
  | with_reducible refine w_un ?_
  | with_reducible refine w_cons ?_
  | with_reducible refine w_nil ?_
  | with_reducible refine w_cl ?_
  | with_reducible refine w_cb ?_
  | with_reducible refine w_gname ?_
  | with_reducible refine w_gsub ?_
  | with_reducible refine w_test ?_
  | with_reducible refine w_B ?_
  | with_reducible refine w_bl ?_
  | with_reducible refine w_and ?_
  | with_reducible refine w_or ?_
  | with_reducible refine w_not ?_
  | with_reducible refine w_if ?_
  | with_reducible refine w_I0 ?_
  | with_reducible refine Gk.w_rU ?_
  | with_reducible refine Dq.w_orV ?_
  | with_reducible refine Dq.w_js ?_
  | with_reducible refine Dq.w_js0 ?_
  | with_reducible refine Dq.w_fm ?_
  | with_reducible refine Dq.w_andV ?_
  | with_reducible refine Gk.w_iEnum ?_
  | with_reducible refine Dq.w_dget ?_
  | with_reducible refine Dq.w_dpop1 ?_
  | with_reducible refine Dq.w_ddel ?_
  | with_reducible refine Dq.w_din ?_
  | with_reducible refine Dq.w_dnotin ?_
  | with_reducible refine Dq.w_dget2 ?_
  | with_reducible refine Dq.w_dnew ?_
  | with_reducible refine Dq.w_fldaug ?_
  | with_reducible refine Dq.w_aSub ?_
  | with_reducible refine Dq.w_aAdd ?_
  | with_reducible refine Dq.w_mkd ?_
  | with_reducible refine Dq.w_notN0 ?_
  | with_reducible refine Dq.w_isN0 ?_
  | with_reducible refine Ftw.w_isTI ?_
  | with_reducible refine Ftw.w_isTS ?_
  | with_reducible refine Ftw.w_isTR ?_
  | with_reducible refine Ftw.w_isTN ?_
  | with_reducible refine Ftw.w_isTtt ?_
  | with_reducible refine Ftw.w_isTft ?_
  | with_reducible refine Ftw.w_isTtf ?_
  | with_reducible refine Ftw.w_isNS ?_
  | with_reducible refine Ftw.w_isNB ?_
  | ((with_reducible refine' Ftw.w_isiRS ?hq ?_); (case hq => assumption))
  | ((with_reducible refine' Ftw.w_isiRT ?hq ?_); (case hq => assumption))
  | ((with_reducible refine' Ftw.w_isiRI ?hq ?_); (case hq => assumption))
  | with_reducible refine Ftw.w_isiIT ?_
  | with_reducible refine Ftw.w_isiII ?_
  | with_reducible refine Dq.w_notNR ?_
  | with_reducible refine Dq.w_isNR ?_
  | with_reducible refine Dq.w_notNI ?_
  | with_reducible refine Dq.w_isNI ?_
  | with_reducible refine L2.w_neOs ?_
  | with_reducible refine w_ipI ?_
  | with_reducible refine w_eqS ?_
  | with_reducible refine w_neS ?_
  | with_reducible refine w_eqI ?_
  | with_reducible refine w_neI ?_
  | with_reducible refine w_eqB ?_
  | with_reducible refine w_neB ?_
  | ((with_reducible refine w_eq ?hs ?_); (case hs => rfl))
  | ((with_reducible refine w_ne ?hs ?_); (case hs => rfl))
  | with_reducible refine w_fld ?_
  | with_reducible refine w_bm ?_
  | with_reducible refine w_bm0 ?_
  | with_reducible refine w_sl ?_
  | with_reducible refine w_part ?_
  | with_reducible refine w_partI ?_
  | with_reducible refine w_nopart ?_
  | ((with_reducible refine' w_ixL ?hh ?ha ?_); (case hh => first | assumption | exact upd_same); (case ha => rfl))
  | ((with_reducible refine' w_setLu ?ha ?_); (case ha => rfl))
  | ((with_reducible refine' w_setL ?hh ?ha ?_); (case hh => first | assumption | exact upd_same); (case ha => rfl))
  | with_reducible refine w_iteT ?_
  | with_reducible refine w_iteF ?_
  | with_reducible refine w_lst ?_
  | with_reducible refine w_tup ?_
  | ((with_reducible refine w_new ?hz ?_); (case hz => rfl))
  | with_reducible refine w_lc ?_
  | with_reducible refine w_iL ?_
  | with_reducible refine w_iT ?_
  | with_reducible refine w_iR1 ?_
  | with_reducible refine w_iR2 ?_
  | with_reducible refine w_yes ?_
  | with_reducible refine w_iStr ?_
  | with_reducible exact tyS
  | with_reducible refine And.intro tyS ?_
  | ((with_reducible refine w_find3 ?_); (first | rw [find3_one] | rw [starts3] | skip))
  | ((with_reducible refine w_2s ?_); (try rw [find_one]))
  | ((with_reducible refine w_inS ?_); rw [S_list])
  | ((with_reducible refine w_lenS ?hz ?_); (case hz => first | assumption | omega | decide); rw [SX.S_len])
  | ((with_reducible refine w_addS ?hz ?_); (case hz => first | assumption | omega | decide); rw [vS_cat])
  | with_reducible refine w_mk ?_
  | with_reducible refine w_me ?_
  | with_reducible refine w_sfld ?_
  | ((with_reducible refine' w_gtup ?hh ?hn ?_); (case hh => first | assumption | exact upd_same); (case hn => rfl))
  | with_reducible refine w_gcons ?_
  | with_reducible refine w_gnil ?_
  | with_reducible refine w_repl ?_
  | with_reducible refine w_star ?_
  | with_reducible refine w_revL ?_
  | with_reducible refine w_isiS ?_
  | with_reducible refine w_isiI ?_
  | with_reducible refine w_isiN ?_
  | with_reducible refine w_chain ?_
  | with_reducible refine w_iEnumT ?_
  | with_reducible refine w_iZip3 ?_
  | with_reducible refine w_iZip ?_
  | with_reducible refine w_lenR3 ?_
  | with_reducible refine w_x1i ?_
  | with_reducible refine w_x1b ?_
  | with_reducible refine w_x1s ?_
  | with_reducible refine w_int1i ?_
  | with_reducible refine w_int1b ?_
  | ((with_reducible refine w_mod ?hc ?_); (case hc => omega))
  | ((with_reducible refine w_fdivW ?hc ?hd ?_); (case hc => omega); (case hd => omega))
  | ((with_reducible refine w_mul ?hc ?_); (case hc => first | exact Or.inr ⟨by decide, by decide⟩ | exact Or.inl ⟨by decide, by decide⟩))
  | ((with_reducible refine w_pow ?hc ?_); (case hc => exact ⟨by decide, by decide, by decide⟩)))
local macro_rules | `(tactic| walk_at "f1") => `(tactic| first
  | ((with_reducible refine' K24.g_rows ?hW ?hK ?hs ?hx ?_); (case hW => assumption); (case hK => rfl); (case hs => rfl); (case hx => first | assumption | exact upd_same))
  | ((with_reducible refine' K24.g_kept ?hW ?hK ?hs ?hx ?_); (case hW => assumption); (case hK => rfl); (case hs => rfl); (case hx => first | assumption | exact upd_same))
  | ((with_reducible refine' K24.g_origin ?hW ?hK ?hs ?hx ?_); (case hW => assumption); (case hK => rfl); (case hs => rfl); (case hx => first | assumption | exact upd_same))
  | ((with_reducible refine' K24.g_equals ?hW ?hK ?hs ?hx ?_); (case hW => assumption); (case hK => rfl); (case hs => rfl); (case hx => first | assumption | exact upd_same))
  | ((with_reducible refine' K24.g_low ?hW ?hK ?hs ?hx ?_); (case hW => assumption); (case hK => rfl); (case hs => rfl); (case hx => first | assumption | exact upd_same))
  | ((with_reducible refine' K24.g_high ?hW ?hK ?hs ?hx ?_); (case hW => assumption); (case hK => rfl); (case hs => rfl); (case hx => first | assumption | exact upd_same))
  | walk_at "e1")
local macro_rules | `(tactic| walk_at "s1") => `(tactic| first
  | with_reducible refine w_seq ?_
  | with_reducible refine w_asg ?_
  | with_reducible refine w_ret ?_
  | with_reducible refine w_par ?_
  | with_reducible refine w_drop ?_
  | with_reducible refine w_next ?_
  | with_reducible refine w_ifs ?_
  | ((with_reducible refine' w_aug ?hv ?_); (case hv => rfl))
  | with_reducible refine w_for ?_
  | walk_at "f1")
local macro_rules | `(tactic| walk_at "e") => `(tactic| repeat walk_at "e1")
local macro_rules | `(tactic| walk_at "g") => `(tactic| repeat walk_at "s1")
local macro_rules | `(tactic| walk_at "n1") => `(tactic| ((fail_if_success (with_reducible refine w_if ?_)); walk_at "s1"))
local macro_rules | `(tactic| walk_at "n") => `(tactic| repeat walk_at "n1")
local macro_rules | `(tactic| walk_at "p1") => `(tactic| ((fail_if_success (with_reducible refine w_ifs ?_)); walk_at "s1"))
local macro_rules | `(tactic| walk_at "p") => `(tactic| repeat walk_at "p1")
local macro_rules | `(tactic| walk_at "q1") => `(tactic| ((fail_if_success (with_reducible refine w_seq ?_)); walk_at "s1"))
local macro_rules | `(tactic| walk_at "q") => `(tactic| repeat walk_at "q1")

namespace K24
open Dc Gk M24 M5
def hiB (key : List Int) : Option (List Int) → Bool
  | none => true
  | some d => HT.lexLt key d
theorem ins_some {B : Bd} {key l : List Int} {h : Option (List Int)} (hk : krange B = some (l, h)) : insB B key = (!HT.lexLt key l && hiB key h) := by
  unfold insB
  rw [hk]
  cases h <;> rfl
section
variable {P : Program} {w : World} {K : PySem.W.Frag} {mg : Str → Option Value} {base : Heap} {ad : Ad}
theorem ok_law {f : Addr} {fd : FuncData} (W : Ws K mg ad) (F : FunD K "law" "law" (defArgs s_law) (defBody s_law) (defScope s_law) [] [] f fd)
    (c__law_rounds : Cl P w K mg base 2 "_law_rounds" (spRounds K)) (c__law_roll : Cl P w K mg base 1 "_law_roll" spRoll) (c__law_value : Cl P w K mg base 2 "_law_value" spLV) (c__law_cond : Cl P w K mg base 3 "_law_cond" spCond)
    (c_bound_conjuncts : Cl P w K mg base 1 "bound_conjuncts" spBC) (c_sided : Cl P w K mg base 5 "sided" spSided2) (c_asked_of : Cl P w K mg base 6 "asked_of" (spAsk ad)) (c_key_range : Cl P w K mg base 14 "key_range" (spKR2 ad K)) (c_key_of : Cl P w K mg base 3 "key_of" (spKeyOf K))
    (c_Ev1 : Dq.Mcd P w K mg base 1 "Evaluator" ad.E (spInE ad K) [.ref ad.em]) (c_Evaluator_within : Me P w K mg base 3 ad.E "within" (spWith ad K)) (c_Evaluator_value_of : Me P w K mg base 12 ad.E "value_of" (spVal ad 4))
    (c_Bounds : Mc P w K mg base 1 "Bounds" ad.B (spInB ad)) (c_Bounds_is_open : Me P w K mg base 1 ad.B "is_open" (spOpen ad)) (c_Bounds_shown : Me P w K mg base 1 ad.B "shown" (spShow ad)) (c_selectivity : Cl P w K mg base 1 "selectivity" (spSel ad)) (c_expected_rows : Cl P w K mg base 4 "expected_rows" spE1) :
    FnOk P w K mg base (L2.CX P w) 16 f fd ["script"] (spLaw K) := by
  obtain ⟨oc, od, dV, kV, doc, pm, an, cdv, ct, osl, rfl, lk, hcd, _, _⟩ := F.ex
  refine fn_of lk hcd sc_law (fun vs H Q E h => ?_) fun A outer s H vs Q E hr h => ?_
  · obtain ⟨a, ns, rfl, _⟩ := h; rfl
  obtain ⟨a, ns, rfl, hS, h63, q⟩ := h
  refine ⟨_, (pss_cons (ps_for (passes_of rfl) rfl (pi_list (pe_cl c__law_rounds hr (by first | decide | omega) rfl passL (pa_cons (pv 0) (pa_cons pe_int pa_nil)))) (pg_name (i := 1) sc_law.nd rfl (by first | exact Or.inl rfl | exact Or.inr rfl))
    (pss_cons (ps_setLc (i := 2) (own := [("k", 3)]) rfl sc_law.nd rfl rfl (sw_true rfl rfl rfl (by decide +kernel)) (pi_range1 rfl W.n_range (pa_cons pe_int pa_nil)) (blkOk_by (own := [("k", 3)]) (N := ["script", "dice", "kinds", "k", "test", "turn", "places", "bounds", "evaluator", "found", "row", "kind", "meets", "key", "place", "inside", "equal", "tree", "sides", "side", "plain", "known", "equals", "many", "limited_v"]) (sc := defScope s_law) (by decide +kernel)) (fun _ _ _ _ _ => (pg_name (i := 3) sc_law.nd rfl (Or.inl rfl))) (fun _ _ _ _ _ => pts_nil) (fun _ _ _ _ _ => (pe_ix (ix_listK K rfl) (pe_lst (pa_cons pe_str (pa_cons pe_str pa_nil))) (pe_cl c__law_roll hr (by first | decide | omega) rfl passL (pa_cons (pv 1) (pa_cons pe_int pa_nil))) (fun _ _ => rfl))))
    (pss_cons (ps_set (i := 4) sc_law.nd rfl (Or.inl rfl) (pe_cl c__law_cond hr (by first | decide | omega) rfl passL (pa_cons (pv 1) (pa_cons (pv 2) pa_nil))))
    (pss_cons (ps_for (passes_of rfl) rfl (pi_range1 rfl W.n_range (pa_cons (pe_cl c__law_roll hr (by first | decide | omega) rfl passL (pa_cons (pv 1) (pa_cons pe_int pa_nil))) pa_nil)) (pg_name (i := 5) sc_law.nd rfl (Or.inl rfl))
    (pss_one (ps_set (i := 4) sc_law.nd rfl (Or.inl rfl) (pe_tup (pa_cons pe_str (pa_cons (pv 4) (pa_cons (pe_cl c__law_cond hr (by first | decide | omega) rfl passL (pa_cons (pv 1) (pa_cons (pv 2) pa_nil))) pa_nil)))))))
    (pss_cons (ps_set (i := 6) sc_law.nd rfl (Or.inl rfl) (pe_ix ix_list (pe_lst (pa_cons (pe_tup (pa_cons pe_int pa_nil)) (pa_cons (pe_tup (pa_cons pe_int pa_nil)) (pa_cons (pe_tup (pa_cons pe_int (pa_cons pe_int pa_nil))) (pa_cons (pe_tup (pa_cons pe_int (pa_cons pe_int pa_nil))) (pa_cons (pe_tup (pa_cons pe_int (pa_cons pe_int (pa_cons pe_int pa_nil)))) pa_nil)))))) (pe_cl c__law_roll hr (by first | decide | omega) rfl passL (pa_cons (pv 1) (pa_cons pe_int pa_nil))) (fun _ _ => rfl)))
    (pss_cons (ps_asg (pe_tup (pa_cons (pe_cl c_asked_of hr (by first | decide | omega) rfl passL (pa_cons (pv 4) (pa_cons (pv 6) pa_nil))) (pa_cons (pe_me c_Evaluator_within hr (by first | decide | omega) passL (Dq.pe_mcd c_Ev1 hr (by decide) rfl passL (pa_cons pe_non pa_nil)) (pa_cons (pe_tup pa_nil) pa_nil)) pa_nil))) (pg_tup rfl (pgs_cons (pg_name (i := 7) sc_law.nd rfl (Or.inl rfl)) (pgs_cons (pg_name (i := 8) sc_law.nd rfl (by first | exact Or.inl rfl | exact Or.inr rfl)) pgs_nil))))
    (pss_cons (ps_set (i := 9) sc_law.nd rfl (Or.inl rfl) (pe_cl c_key_range hr (by first | decide | omega) rfl passL (pa_cons (pv 7) (pa_cons (pv 8) pa_nil))))
    (pss_cons (ps_for (passes_of rfl) rfl (pi_range1 rfl W.n_range (pa_cons pe_int pa_nil)) (pg_name (i := 5) sc_law.nd rfl (Or.inl rfl))
    (pss_cons (ps_set (i := 10) sc_law.nd rfl (by first | exact Or.inl rfl | exact Or.inr rfl) (pe_callTy call_tuple_of rfl W.n_tuple (by decide +kernel) (pa_cons (pe_lc (own := [("kind", 11)]) rfl sc_law.nd (pi_list (pv 2)) (blkOk_by (own := [("kind", 11)]) (N := ["script", "dice", "kinds", "k", "test", "turn", "places", "bounds", "evaluator", "found", "row", "kind", "meets", "key", "place", "inside", "equal", "tree", "sides", "side", "plain", "known", "equals", "many", "limited_v"]) (sc := defScope s_law) (by decide +kernel)) (fun _ _ _ _ _ => (pg_name (i := 11) sc_law.nd rfl (by first | exact Or.inl rfl | exact Or.inr rfl))) (fun _ _ _ _ _ => pts_nil) (fun _ _ _ _ _ => (pe_cl c__law_value hr (by first | decide | omega) rfl passL (pa_cons (pv 1) (pa_cons (pv 11) pa_nil))))) pa_nil)))
    (pss_cons (ps_set (i := 12) sc_law.nd rfl (Or.inl rfl) (pe_cmpR Ftx.op_isT (pe_me c_Evaluator_value_of hr (by first | decide | omega) passL (pe_me c_Evaluator_within hr (by first | decide | omega) passL (Dq.pe_mcd c_Ev1 hr (by decide) rfl passL (pa_cons pe_non pa_nil)) (pa_cons (pv 10) pa_nil)) (pa_cons (pv 4) pa_nil)) pe_bl (nomark _)))
    (pss_cons (ps_set (i := 13) sc_law.nd rfl (Or.inl rfl) (pe_op op_catA (pe_cl c_key_of hr (by first | decide | omega) rfl passL (pa_cons (pe_lc (own := [("place", 14)]) rfl sc_law.nd (pi_tup (pv 6)) (blkOk_by (own := [("place", 14)]) (N := ["script", "dice", "kinds", "k", "test", "turn", "places", "bounds", "evaluator", "found", "row", "kind", "meets", "key", "place", "inside", "equal", "tree", "sides", "side", "plain", "known", "equals", "many", "limited_v"]) (sc := defScope s_law) (by decide +kernel)) (fun _ _ _ _ _ => (pg_name (i := 14) sc_law.nd rfl (by first | exact Or.inl rfl | exact Or.inr rfl))) (fun _ _ _ _ _ => pts_nil) (fun _ _ _ _ _ => (pe_ix (ix_tupK K rfl) (pv 10) (pv 14) (fun _ _ => rfl)))) pa_nil)) (pe_cl c_key_of hr (by first | decide | omega) rfl passL (pa_cons (pe_tup (pa_cons (pv 5) pa_nil)) pa_nil))))
    (pss_cons (ps_set (i := 15) sc_law.nd rfl (Or.inl rfl) (pe_and (pe_cmpR op_notN1 (pv 9) pe_non (nomark _)) (pe_and (pe_cmpR (Fge.op_geT (hu64 hr)) (pv 13) (pe_ix ix_tup (pv 9) pe_int (fun _ _ => rfl)) (nomark _)) (pe_one (pe_or (pe_cmpR op_isN1 (pe_ix ix_tup (pv 9) pe_int (fun _ _ => rfl)) pe_non (nomark _)) (pe_one (pe_cmpR (op_ltT (hu1 hr)) (pv 13) (pe_ix ix_tup (pv 9) pe_int (fun _ _ => rfl)) (nomark _))))))))
    (pss_cons (ps_if (PW.pt (pw_and (pt_val (pv 12)) (pw_and1 (pt_not (pt_val (pv 15))))))
    (pss_one (ps_ret pe_bl))
    pss_nil)
    (pss_cons (ps_setLc (i := 16) (own := [("place", 14), ("tree", 17)]) rfl sc_law.nd rfl rfl (sw_true rfl rfl rfl (by decide +kernel)) (RZ.pi_zipA rfl W.n_zip (pa_cons (pv 6) (pa_cons (pe_fld (pv 7) rfl) pa_nil))) (blkOk_by (own := [("place", 14), ("tree", 17)]) (N := ["script", "dice", "kinds", "k", "test", "turn", "places", "bounds", "evaluator", "found", "row", "kind", "meets", "key", "place", "inside", "equal", "tree", "sides", "side", "plain", "known", "equals", "many", "limited_v"]) (sc := defScope s_law) (by decide +kernel)) (fun _ _ _ _ _ => (Fw.pg_tupK K 2 rfl rfl (pgs_cons (pg_name (i := 14) sc_law.nd rfl (by first | exact Or.inl rfl | exact Or.inr rfl)) (pgs_cons (pg_name (i := 17) sc_law.nd rfl (by first | exact Or.inl rfl | exact Or.inr rfl)) pgs_nil)) rfl rfl)) (fun _ _ _ _ _ => pts_nil) (fun _ _ _ _ _ => (pe_and (pe_cmpR (op_eqDK K rfl (hu64 hr)) (pe_ix (ix_tupK K rfl) (pv 10) (pv 14) (fun _ _ => rfl)) (pe_me c_Evaluator_value_of hr (by first | decide | omega) passL (pv 8) (pa_cons (pv 17) pa_nil)) (nomark _)) (pe_one (pe_cmpR op_notN1 (pe_ix (ix_tupK K rfl) (pv 10) (pv 14) (fun _ _ => rfl)) pe_non (nomark _))))))
    (pss_one (ps_if (PW.pt (pw_and (pt_cmpR op_notN1 (pv 9) pe_non (nomark _)) (pw_and (pt_val (pv 15)) (pw_and1 (pt_cmpR op_in_seq pe_bl (pv 16) (by with_unfolding_all rfl))))))
    (pss_one (ps_ret pe_bl))
    pss_nil)))))))))
    (pss_cons (ps_setLc (i := 18) (own := [("tree", 17)]) rfl sc_law.nd rfl rfl (sw_true rfl rfl rfl (by decide +kernel)) (pi_tup (pe_cl c_bound_conjuncts hr (by first | decide | omega) rfl passL (pa_cons (pv 4) pa_nil))) (blkOk_by (own := [("tree", 17)]) (N := ["script", "dice", "kinds", "k", "test", "turn", "places", "bounds", "evaluator", "found", "row", "kind", "meets", "key", "place", "inside", "equal", "tree", "sides", "side", "plain", "known", "equals", "many", "limited_v"]) (sc := defScope s_law) (by decide +kernel)) (fun _ _ _ _ _ => (pg_name (i := 17) sc_law.nd rfl (by first | exact Or.inl rfl | exact Or.inr rfl))) (fun _ _ _ _ _ => pts_nil) (fun _ _ _ _ _ => (pe_cl c_sided hr (by first | decide | omega) rfl passL (pa_cons (pv 17) pa_nil))))
    (pss_cons (ps_for (passes_of rfl) rfl (F24.pi_zipM rfl W.n_zip (pa_cons (pe_cl c_bound_conjuncts hr (by first | decide | omega) rfl passL (pa_cons (pv 4) pa_nil)) (pa_cons (pv 18) pa_nil))) (pg_tup rfl (pgs_cons (pg_name (i := 17) sc_law.nd rfl (by first | exact Or.inl rfl | exact Or.inr rfl)) (pgs_cons (pg_name (i := 19) sc_law.nd rfl (by first | exact Or.inl rfl | exact Or.inr rfl)) pgs_nil)))
    (pss_cons (ps_set (i := 20) sc_law.nd rfl (Or.inl rfl) (pe_and (pe_cmpR op_eq (pe_ix ix_tup (pv 17) pe_int (fun _ _ => rfl)) pe_str (nomark _)) (pe_and (pe_cmpR op_ne (pe_ix ix_tup (pv 17) pe_int (fun _ _ => rfl)) pe_str (nomark _)) (pe_one (pe_cmpR (op_neD (hu64 hr)) (pe_ix ix_tup (pv 17) pe_int (fun _ _ => rfl)) (pe_ix ix_tup (pv 17) pe_int (fun _ _ => rfl)) (nomark _))))))
    (pss_cons (ps_if (pt_cmpR op_ne (pe_cmpR op_notN1 (pv 19) pe_non (nomark _)) (pv 20) (nomark _))
    (pss_one (ps_ret pe_bl))
    pss_nil)
    (pss_one (ps_if (PW.pt (pw_and (pt_val (pv 20)) (pw_and1 (PW.pt (pw_or (pt_cmpR op_notIn_seq (pe_ix ix_tup (pv 19) pe_int (fun _ _ => rfl)) (pe_lst (pa_cons pe_int (pa_cons pe_int (pa_cons pe_int pa_nil)))) (by with_unfolding_all rfl)) (pw_or1 (PW.pt (pw_and (pt_cmpR op_eq (pe_ix ix_tup (pe_ix ix_tup (pv 17) pe_int (fun _ _ => rfl)) pe_int (fun _ _ => rfl)) pe_str (nomark _)) (pw_and1 (pt_cmpR (op_neD (hu64 hr)) (pe_slice sl_tupA (pv 19) (po_some pe_int) po_none) (pe_tup (pa_cons (pe_ix ix_tup (pv 17) pe_int (fun _ _ => rfl)) (pa_cons (pe_ix ix_tup (pv 17) pe_int (fun _ _ => rfl)) pa_nil))) (nomark _)))))))))))
    (pss_one (ps_ret pe_bl))
    pss_nil)))))
    (pss_cons (ps_setLc (i := 21) (own := [("side", 19)]) rfl sc_law.nd rfl rfl (sw_true rfl rfl rfl (by decide +kernel)) (pi_list (pv 18)) (blkOk_by (own := [("side", 19)]) (N := ["script", "dice", "kinds", "k", "test", "turn", "places", "bounds", "evaluator", "found", "row", "kind", "meets", "key", "place", "inside", "equal", "tree", "sides", "side", "plain", "known", "equals", "many", "limited_v"]) (sc := defScope s_law) (by decide +kernel)) (fun _ _ _ _ _ => (pg_name (i := 19) sc_law.nd rfl (by first | exact Or.inl rfl | exact Or.inr rfl))) (fun _ _ _ _ _ => (pts_one (pt_cmpR op_notN1 (pv 19) pe_non (nomark _)))) (fun _ _ _ _ _ => (pv 19)))
    (pss_cons (ps_for (passes_of rfl) rfl (pi_enumT rfl W.n_enumerate (pa_cons (pv 6) pa_nil)) (pg_tup rfl (pgs_cons (pg_name (i := 3) sc_law.nd rfl (Or.inl rfl)) (pgs_cons (pg_name (i := 14) sc_law.nd rfl (by first | exact Or.inl rfl | exact Or.inr rfl)) pgs_nil)))
    (pss_cons (ps_setLc (i := 22) (own := [("side", 19)]) rfl sc_law.nd rfl rfl (sw_true rfl rfl rfl (by decide +kernel)) (pi_list (pv 21)) (blkOk_by (own := [("side", 19)]) (N := ["script", "dice", "kinds", "k", "test", "turn", "places", "bounds", "evaluator", "found", "row", "kind", "meets", "key", "place", "inside", "equal", "tree", "sides", "side", "plain", "known", "equals", "many", "limited_v"]) (sc := defScope s_law) (by decide +kernel)) (fun _ _ _ _ _ => (pg_name (i := 19) sc_law.nd rfl (by first | exact Or.inl rfl | exact Or.inr rfl))) (fun _ _ _ _ _ => (pts_one (PW.pt (pw_and (pt_cmpR op_eq (pe_ix (ix_tupK K rfl) (pv 19) pe_int (fun _ _ => rfl)) (pv 14) (nomark _)) (pw_and1 (pt_cmpR op_eq (pe_ix (ix_tupK K rfl) (pv 19) pe_int (fun _ _ => rfl)) pe_str (nomark _))))))) (fun _ _ _ _ _ => (pe_ix (ix_tupK K rfl) (pv 19) pe_int (fun _ _ => rfl))))
    (pss_one (ps_if (PW.pt (pw_or (PW.pt (pw_and (pt_cmpR op_lt (pv 3) (pe_callB call_len_seq rfl W.n_len PySem.boot_len (pa_cons (pe_fld (pv 7) rfl) pa_nil)) (nomark _)) (pw_and1 (pt_cmpR (Ftx.op_neC (hu64 hr)) (pe_ix ix_tup (pe_fld (pv 7) rfl) (pv 3) (fun _ _ => rfl)) (pe_ix ix_list (pv 22) pe_int (fun _ _ => rfl)) (nomark _))))) (pw_or1 (PW.pt (pw_and (pt_cmpR op_eq (pv 3) (pe_callB call_len_seq rfl W.n_len PySem.boot_len (pa_cons (pe_fld (pv 7) rfl) pa_nil)) (nomark _)) (pw_and1 (pt_cmpR (op_neD (hu64 hr)) (pv 22) (pe_lst pa_nil) (nomark _))))))))
    (pss_one (ps_ret pe_bl))
    pss_nil))))
    (pss_cons (ps_if (pt_cmpR op_ne (pe_me0 c_Bounds_is_open hr (by decide) passL (pv 7)) (pe_cmpR (op_eqD (hu64 hr)) (pe_me0 c_Bounds_shown hr (by decide) passL (pv 7)) (pe_tup (pa_cons (pe_tup pa_nil) (pa_cons pe_non (pa_cons pe_non pa_nil)))) (nomark _)) (nomark _))
    (pss_one (ps_ret pe_bl))
    pss_nil)
    (pss_cons (ps_set (i := 23) sc_law.nd rfl (Or.inl rfl) (pe_cl c__law_roll hr (by first | decide | omega) rfl passL (pa_cons (pv 1) (pa_cons pe_int pa_nil))))
    (pss_cons (ps_if (PW.pt (pw_or (pt_not (pt_chain op_le op_le pe_int (pe_cl c_selectivity hr (by first | decide | omega) rfl passL (pa_cons (pv 7) (pa_cons (pv 23) pa_nil))) (pe_op op_add (pv 23) pe_int))) (pw_or1 (PW.pt (pw_and (pt_val (pe_me0 c_Bounds_is_open hr (by decide) passL (pv 7))) (pw_and1 (pt_cmpR op_ne (pe_cl c_selectivity hr (by first | decide | omega) rfl passL (pa_cons (pv 7) (pa_cons (pv 23) pa_nil))) (pv 23) (nomark _))))))))
    (pss_one (ps_ret pe_bl))
    pss_nil)
    (pss_one (ps_if (pt_not (pt_chain op_le op_le pe_int (pe_cl c_expected_rows hr (by first | decide | omega) rfl passL (pa_cons (pe_tup (pa_cons pe_str (pa_cons (pv 4) (pa_cons (pe_tup (pa_cons pe_str (pa_cons pe_str (pa_cons pe_int pa_nil)))) pa_nil)))) (pa_cons (pe_disp (pps_cons pe_str (pv 23) pps_nil) rfl rfl (fun z => by cases z) (by decide)) pa_nil))) (pv 23)))
    (pss_one (ps_ret pe_bl))
    pss_nil)))))))))))))))))
    (pss_cons (ps_set (i := 24) sc_law.nd rfl (Or.inl rfl) (pe_tup (pa_cons pe_str (pa_cons pe_int (pa_cons pe_int (pa_cons (pe_tup (pa_cons pe_str (pa_cons pe_str (pa_cons pe_int pa_nil)))) pa_nil))))))
    (pss_one (ps_ret (pe_and (pe_cmpR op_eq (pe_cl c_expected_rows hr (by first | decide | omega) rfl passL (pa_cons (pv 24) (pa_cons (pe_disp (pps_cons pe_str pe_int pps_nil) rfl rfl (fun z => by cases z) (by decide)) pa_nil))) pe_int (nomark _)) (pe_and (pe_cmpR op_eq (pe_cl c_expected_rows hr (by first | decide | omega) rfl passL (pa_cons (pe_tup (pa_cons pe_str (pa_cons pe_bl (pa_cons pe_non (pa_cons (pe_tup (pa_cons pe_str pa_nil)) (pa_cons (pe_tup (pa_cons pe_str (pa_cons pe_str (pa_cons pe_int pa_nil)))) pa_nil)))))) (pa_cons pe_dnewK pa_nil))) pe_int (nomark _)) (pe_one (pe_me0 c_Bounds_is_open hr (by decide) passL (pe_mc c_Bounds hr (by decide) rfl passL (pa_cons (pe_tup pa_nil) (pa_cons pe_non (pa_cons pe_non pa_nil)))))))))))), ?_⟩
  walk_at "g"
  refine ⟨a, ns, 1, rfl, hS, h63, fun p H1 dcs s1 fp ep hds hl => ?_⟩
  refine w_forL (SqL.of ep) (fun i σ Hc => Good p dcs Hc ∧ ∃ v1 v2 v3 v4 v5 v6 v7 v8 v9 v10 v11 v12 v13 v14 v15 v16 v17 v18 v19 v20 v21 v22 v23 v24 : Option V, σ = [some (.ref a), v1, v2, v3, v4, v5, v6, v7, v8, v9, v10, v11, v12, v13, v14, v15, v16, v17, v18, v19, v20, v21, v22, v23, v24])
    ⟨⟨ep, fun d hd => (hds d hd).1⟩, none, none, none, none, none, none, none, none, none, none, none, none, none, none, none, none, none, none, none, none, none, none, none, none, rfl⟩ (fun i σ Hc _ h => SqL.of h.1.lst) ?_ ?_
  · rintro i x σ H2 hi ⟨g, v1, v2, v3, v4, v5, v6, v7, v8, v9, v10, v11, v12, v13, v14, v15, v16, v17, v18, v19, v20, v21, v22, v23, v24, rfl⟩
    obtain ⟨d, hd, rfl⟩ := map_get hi
    have hdd := g.dice d (List.mem_of_getElem? hd)
    walk_at "g"
    refine w_lcRp ⟨by decide, by decide⟩ fun D hD => ⟨fun i H' => ∃ kd : List Bool, kd.length = i ∧ Kp d H2 H' ∧ Dice H' d ∧ H' D = some (.lst (kd.map fun b => V.str (kdS b))), ⟨[], rfl, Kp.of (same_new hD _), hdd.new hD, upd_same⟩, ?_, ?_⟩
    · have Dd : D ≠ d := fun z => by
        obtain ⟨_, _, _, e⟩ := hdd
        rw [z, e] at hD
        cases hD
      rintro i H3 hi ⟨kd, rfl, k3, d3, eD⟩
      walk_at "g"
      refine ⟨rfl, ?_⟩
      walk_at "g"
      intro L hL
      obtain ⟨k4, k34, d4, nL, _, eL⟩ := newl (o := .lst [.str (Str.ofString "int"), .str (Str.ofString "text")]) k3 d3 hL rfl
      have eD4 := k34 D _ Dd eD
      generalize upd H3 L (.lst [.str (Str.ofString "int"), .str (Str.ofString "text")]) = H4 at k4 k34 d4 eL eD4
      walk_at "g"
      refine w_roll (by decide) (by decide) k4 d4 fun r H5 r0 r1 k5 k45 d5 => ?_
      have eL5 := k45 L _ nL eL
      have eD5 := k45 D _ Dd eD4
      obtain ⟨b, hb⟩ : ∃ b, atI [V.str (Str.ofString "int"), .str (Str.ofString "text")] r = some (.str (kdS b)) := by
        have : r = 0 ∨ r = 1 := by omega
        rcases this with rfl | rfl
        · exact ⟨false, rfl⟩
        · exact ⟨true, rfl⟩
      refine w_ixL eL5 hb ?_
      exact ⟨_, eD5, by rw [List.length_map]; exact Nat.lt_of_lt_of_le (by omega : kd.length < 3) (by decide), kd ++ [b], by simp, Gk.Kp.wr k5 hD, Gk.Dice.wr d5 Dd, by rw [upd_same, List.map_append]; rfl⟩
    · rintro H3 ⟨kd, h3, k3, d3, eD⟩
      have h3' : kd.length = 3 := h3
      have nk := kl_ne d3 h3' eD
      walk_at "g"
      refine ⟨d, D, kd, rfl, d3, h3', eD, fun ta c H4 k34 d4 hc hw => ?_⟩
      have eD4 : kdO H4 D kd := k34 D _ nk eD
      have k4 := k3.trans k34
      clear eD k3 k34 d3 hD
      walk_at "g"
      refine w_roll (by decide) (by decide) k4 d4 fun r H5 r0 r1 k5 k45 d5 => ?_
      have eD5 : kdO H5 D kd := k45 D _ nk eD4
      have hc5 := hc.tk (Tk.kp k45 d4)
      clear eD4 k4 k45 d4 hc
      walk_at "g"
      refine w_forRp ⟨r0, by omega⟩ (fun i σ H' => ∃ (T : M24.Tm) (tb : Addr) (v3 v5 : Option V), σ = [some (.ref a), some (.ref d), some (.ref D), v3, some (.ref tb), v5, v6, v7, v8, v9, v10, v11, v12, v13, v14, v15, v16, v17, v18, v19, v20, v21, v22, v23, v24] ∧ Kp d H2 H' ∧ Dice H' d ∧ kdO H' D kd ∧ TmO H' tb T ∧ TW kd T ∧ dep T = i)
        ⟨.cd c, ta, _, _, rfl, k5, d5, eD5, hc5, fun c' hc' => by
          have e : c' = c := by simpa [conj] using hc'
          rw [e]; exact hw, rfl⟩ ?_ ?_
      · rintro i σ H6 hi6 ⟨T, tb, v3, v5, rfl, k6, d6, eD6, hT, hTw, hdep⟩
        walk_at "g"
        refine ⟨d, D, kd, rfl, d6, h3', eD6, fun cA c2 H7 k67 d7 hc2 hw2 => ?_⟩
        walk_at "g"
        intro z hz
        have s8 := same_new hz (.tup [.str (Str.ofString "and"), .ref tb, .ref cA])
        have t68 := (Tk.kp k67 d6).trans (Tk.of s8)
        have eD8 := s8 _ _ (k67 D _ nk eD6)
        walk_at "g"
        refine ⟨.and T c2, z, _, _, rfl, (k6.trans k67).trans (Kp.of s8), d7.new hz, eD8, ⟨tb, cA, TmO.tk t68 hT, hc2.tk (Tk.of s8), upd_same⟩, fun c' hc' => ?_, by show dep T + 1 = i + 1; rw [hdep]⟩
        have hc3 : c' ∈ conj T ++ [c2] := hc'
        rcases List.mem_append.mp hc3 with h | h
        · exact hTw _ h
        · rw [List.mem_singleton.mp h]; exact hw2
      rintro σ H6 ⟨T, tb, v3, v5, rfl, k6, d6, eD6, hT, hTw, hdep⟩
      have hdep3 : dep T ≤ 3 := by rw [hdep]; omega
      clear k5 d5 eD5 hc5 hw hdep
      walk_at "g"
      intro t1 ht
      have s7 := same_new ht (.tup [.int 0])
      have e1 : (upd H6 t1 (.tup [.int 0])) t1 = some (.tup [.int 0]) := upd_same
      have d6 := d6.new (o := .tup [.int 0]) ht
      generalize upd H6 t1 (.tup [.int 0]) = H7 at s7 e1 d6
      have k6 := k6.trans (Kp.of s7)
      have eD6 : kdO H7 D kd := s7 _ _ eD6
      have hT := TmO.tk (Tk.of s7) hT
      clear s7 ht
      walk_at "g"
      intro t2 ht
      have s7 := same_new ht (.tup [.int 2])
      have e2 : (upd H7 t2 (.tup [.int 2])) t2 = some (.tup [.int 2]) := upd_same
      have d6 := d6.new (o := .tup [.int 2]) ht
      generalize upd H7 t2 (.tup [.int 2]) = H7 at s7 e2 d6
      have e1 := s7 _ _ e1
      have k6 := k6.trans (Kp.of s7)
      have eD6 : kdO H7 D kd := s7 _ _ eD6
      have hT := TmO.tk (Tk.of s7) hT
      clear s7 ht
      walk_at "g"
      intro t3 ht
      have s7 := same_new ht (.tup [.int 1, .int 0])
      have e3 : (upd H7 t3 (.tup [.int 1, .int 0])) t3 = some (.tup [.int 1, .int 0]) := upd_same
      have d6 := d6.new (o := .tup [.int 1, .int 0]) ht
      generalize upd H7 t3 (.tup [.int 1, .int 0]) = H7 at s7 e3 d6
      have e1 := s7 _ _ e1
      have e2 := s7 _ _ e2
      have k6 := k6.trans (Kp.of s7)
      have eD6 : kdO H7 D kd := s7 _ _ eD6
      have hT := TmO.tk (Tk.of s7) hT
      clear s7 ht
      walk_at "g"
      intro t4 ht
      have s7 := same_new ht (.tup [.int 2, .int 1])
      have e4 : (upd H7 t4 (.tup [.int 2, .int 1])) t4 = some (.tup [.int 2, .int 1]) := upd_same
      have d6 := d6.new (o := .tup [.int 2, .int 1]) ht
      generalize upd H7 t4 (.tup [.int 2, .int 1]) = H7 at s7 e4 d6
      have e1 := s7 _ _ e1
      have e2 := s7 _ _ e2
      have e3 := s7 _ _ e3
      have k6 := k6.trans (Kp.of s7)
      have eD6 : kdO H7 D kd := s7 _ _ eD6
      have hT := TmO.tk (Tk.of s7) hT
      clear s7 ht
      walk_at "g"
      intro t5 ht
      have s7 := same_new ht (.tup [.int 0, .int 1, .int 2])
      have e5 : (upd H7 t5 (.tup [.int 0, .int 1, .int 2])) t5 = some (.tup [.int 0, .int 1, .int 2]) := upd_same
      have d6 := d6.new (o := .tup [.int 0, .int 1, .int 2]) ht
      generalize upd H7 t5 (.tup [.int 0, .int 1, .int 2]) = H7 at s7 e5 d6
      have e1 := s7 _ _ e1
      have e2 := s7 _ _ e2
      have e3 := s7 _ _ e3
      have e4 := s7 _ _ e4
      have k6 := k6.trans (Kp.of s7)
      have eD6 : kdO H7 D kd := s7 _ _ eD6
      have hT := TmO.tk (Tk.of s7) hT
      clear s7 ht
      walk_at "g"
      intro L hL
      obtain ⟨k8, k78, d8, nL, _, eL⟩ := newl (o := .lst [.ref t1, .ref t2, .ref t3, .ref t4, .ref t5]) k6 d6 hL rfl
      have s8 := same_new hL (.lst [.ref t1, .ref t2, .ref t3, .ref t4, .ref t5])
      have eD8 : kdO (upd H7 L (.lst [.ref t1, .ref t2, .ref t3, .ref t4, .ref t5])) D kd := s8 _ _ eD6
      have hT8 := TmO.tk (Tk.of s8) hT
      have e1 := s8 _ _ e1
      have e2 := s8 _ _ e2
      have e3 := s8 _ _ e3
      have e4 := s8 _ _ e4
      have e5 := s8 _ _ e5
      generalize upd H7 L (.lst [.ref t1, .ref t2, .ref t3, .ref t4, .ref t5]) = H8 at k8 k78 d8 eL s8 eD8 hT8 e1 e2 e3 e4 e5
      clear k6 d6 eD6 hT s8 hL k78
      walk_at "g"
      refine w_roll (by decide) (by decide) k8 d8 fun r2 H13 r20 r21 k13 k813 d13 => ?_
      have t813 := Tk.kp k813 d8
      obtain ⟨pl, ps, hx, hpl, hp3, hpn⟩ : ∃ (pl : Addr) (ps : List Nat), atI [V.ref t1, .ref t2, .ref t3, .ref t4, .ref t5] r2 = some (.ref pl) ∧ H13 pl = some (.tup (ps.map fun p : Nat => V.int (p : Int))) ∧ (∀ p ∈ ps, p < 3) ∧ ps.length ≤ 3 := by
        have : r2 = 0 ∨ r2 = 1 ∨ r2 = 2 ∨ r2 = 3 ∨ r2 = 4 := by omega
        rcases this with rfl | rfl | rfl | rfl | rfl
        · exact ⟨t1, [0], rfl, tup_tk e1 t813, by decide, by decide⟩
        · exact ⟨t2, [2], rfl, tup_tk e2 t813, by decide, by decide⟩
        · exact ⟨t3, [1, 0], rfl, tup_tk e3 t813, by decide, by decide⟩
        · exact ⟨t4, [2, 1], rfl, tup_tk e4 t813, by decide, by decide⟩
        · exact ⟨t5, [0, 1, 2], rfl, tup_tk e5 t813, by decide, by decide⟩
      refine w_ixL (k813 L _ nL eL) hx ?_
      have hT13 := TmO.tk t813 hT8
      have eD13 : kdO H13 D kd := k813 D _ nk eD8
      clear e1 e2 e3 e4 e5 hx t813 k813 d8 k8 eD8 hT8 eL nL
      walk_at "g"
      refine ⟨tb, pl, T, ps, rfl, hT13, hTw.ok, by omega, hpl, by omega, fun b H14 s14 hb => ?_⟩
      replace hb : BoO ad H14 b (askB (sds T) ps) := hb
      walk_at "g"
      intro x dx hx hdx ne
      refine ⟨x, dx, ad.em, [], rfl, upd_same, W.em_t _, fun kq H15 keep hx15 => ⟨rfl, ?_⟩⟩
      have s15 : Same H14 H15 := fun b' o h => keep b' o (ne_of_none h hx) (by rw [upd_ne (ne_of_none h hx), upd_ne (ne_of_none h hdx)]; exact h)
      have ev15 : EvA K ad H15 x 0 := ⟨dx, ad.em, kq, [], hx15, W.em_t _, Nat.le_refl _⟩
      refine ev_at ev15 no_within ?_
      walk_at "g"
      intro t0 ht0
      have s16 := same_new ht0 (.tup [])
      refine ⟨x, t0, 0, [], rfl, ev15.tk (Tk.of s16), by decide, upd_same, fun e H17 s17 he => ?_⟩
      walk_at "g"
      intro t9 ht9
      have s18 := same_new ht9 (.tup [.ref b, .ref e])
      have e9 : (upd H17 t9 (.tup [.ref b, .ref e])) t9 = some (.tup [.ref b, .ref e]) := upd_same
      have s1418 := ((s15.trans s16).trans s17).trans s18
      have hb18 := hb.tk (Tk.of s1418)
      have he18 := he.tk (Tk.of s18)
      generalize upd H17 t9 (.tup [.ref b, .ref e]) = H18 at s18 e9 s1418 hb18 he18
      have okB := ask_ok hTw (ps := ps) (by omega)
      walk_at "g"
      refine ⟨b, e, askB (sds T) ps, 1, rfl, hb18, he18.ev, by decide, okB, fun fv H19 s19 hfv => ?_⟩
      have s1319 := (s14.trans s1418).trans s19
      have k19 := k13.trans (Kp.of s1319)
      have d19 := Gk.Dice.sm d13 s1319
      have hT19 := TmO.tk (Tk.of s1319) hT13
      have eD19 : kdO H19 D kd := s1319 _ _ eD13
      have hpl19 := s1319 _ _ hpl
      have hb19 := hb18.tk (Tk.of s19)
      have he19 := he18.tk (Tk.of s19)
      clear s14 s15 s16 s17 s18 s19 s1418 s1319 k13 d13 hT13 eD13 hpl hb hb18 he he18 e9 hx hdx ne keep hx15 ev15 ht0 ht9
      walk_at "g"
      refine w_forRp ⟨by decide, by decide⟩ (fun i σ H' => Kp d H19 H' ∧ Dice H' d ∧ ∃ v3 v5 v10 v12 v13 v15 v16 : Option V, σ = [some (.ref a), some (.ref d), some (.ref D), v3, some (.ref tb), v5, some (.ref pl), some (.ref b), some (.ref e), some fv, v10, v11, v12, v13, v14, v15, v16, v17, v18, v19, v20, v21, v22, v23, v24]) ⟨Kp.refl d H19, d19, _, _, _, _, _, _, _, rfl⟩ ?_ ?_
      · rintro j σ H20 hj ⟨k20, d20, v3, v5, v10, v12, v13, v15, v16, rfl⟩
        have eD20 : kdO H20 D kd := k20 D _ nk eD19
        rw [show (0 : Int) + (j : Int) = (j : Int) by omega]
        have hj2 : j < 1000 := by omega
        walk_at "g"
        refine w_lcLn (SqL.of eD20) fun R hR => ⟨fun i H' => ∃ row : List RV, row.length = i ∧ Kp d H20 H' ∧ Dice H' d ∧ H' R = some (.lst (row.map vV)) ∧ ∀ p v, row[p]? = some v → okK (kd.getD p false) v, ⟨[], rfl, Kp.of (same_new hR _), d20.new hR, upd_same, fun p v h => by cases h⟩, fun i H' _ ⟨_, _, k, _⟩ => SqL.of (k D _ nk eD20), ?_, ?_⟩
        · have Rd : R ≠ d := fun z => by
            obtain ⟨_, _, _, e⟩ := d20
            rw [z, e] at hR
            cases hR
          rintro i x H21 hi ⟨row, rfl, k21, d21, eR, hrow⟩
          obtain ⟨bk, hbk, rfl⟩ := map_get hi
          have hlt := (List.getElem?_eq_some_iff.mp hbk).1
          walk_at "g"
          refine ⟨rfl, ?_⟩
          walk_at "g"
          refine ⟨d, bk, rfl, d21, fun v H22 k22 d22 hv => ?_⟩
          have eR2 := k22 R _ Rd eR
          refine ⟨_, eR2, by rw [List.length_map]; exact Nat.lt_of_lt_of_le (by omega : row.length < 3) (by decide), row ++ [v], by simp, Gk.Kp.wr (k21.trans k22) hR, Gk.Dice.wr d22 Rd, by rw [upd_same, List.map_append]; rfl, fun p u hp => ?_⟩
          by_cases hpl2 : p < row.length
          · rw [List.getElem?_append_left hpl2] at hp
            exact hrow p u hp
          · rw [List.getElem?_append_right (by omega)] at hp
            have hp0 : p - row.length = 0 := by
              have := (List.getElem?_eq_some_iff.mp hp).1
              simp at this
              omega
            have hpe : p = row.length := by omega
            rw [hp0] at hp
            cases hp
            rw [hpe, List.getD_eq_getElem?_getD, hbk]
            exact hv
        · rintro H21 ⟨row, hrl, k21, d21, eR, hrow⟩
          rw [List.length_map, h3'] at hrl
          have rok : RowOk kd row := ⟨hrl, hrow⟩
          walk_at "g"
          refine ⟨R, _, rfl, .inl ⟨SqL.of eR, fun rt hrt => ?_⟩⟩
          have s22 := same_new hrt (.tup (row.map vV))
          have ert : (upd H21 rt (.tup (row.map vV))) rt = some (.tup (row.map vV)) := upd_same
          generalize upd H21 rt (.tup (row.map vV)) = H22 at s22 ert
          have k22 := (k20.trans k21).trans (Kp.of s22)
          have d22 := Gk.Dice.sm d21 s22
          clear s22 k21 d21 eR hrow hrt hR eD20 d20 k20
          walk_at "g"
          intro x2 dx2 hx2 hdx2 ne2
          refine ⟨x2, dx2, ad.em, [], rfl, upd_same, W.em_t _, fun kq2 H23 keep2 hx23 => ⟨rfl, ?_⟩⟩
          have s23 : Same H22 H23 := fun b' o h => keep2 b' o (ne_of_none h hx2) (by rw [upd_ne (ne_of_none h hx2), upd_ne (ne_of_none h hdx2)]; exact h)
          have ev23 : EvA K ad H23 x2 0 := ⟨dx2, ad.em, kq2, [], hx23, W.em_t _, Nat.le_refl _⟩
          refine ev_at ev23 no_within ?_
          walk_at "g"
          refine ⟨x2, rt, 0, row, rfl, ev23, by decide, s23 _ _ ert, fun y H24 s24 hy => ?_⟩
          have s2224 := s23.trans s24
          have k24 := k22.trans (Kp.of s2224)
          have d24 := Gk.Dice.sm d22 s2224
          have t24 := Tk.kp k24 d19
          have ert24 := s2224 _ _ ert
          have hpl24 := tup_tk hpl19 t24
          refine hy.at no_value ?_
          walk_at "g"
          refine ⟨y, tb, 0, row, _, rfl, hy, (tm_tv rok (TmO.tk t24 hT19) hTw).le (by omega), ?_⟩
          clear k22 d22 s23 s24 s2224 ert hy keep2 hx23 ev23 hx2 hdx2 ne2
          walk_at "g"
          refine w_isTO ?_
          walk_at "g"
          refine w_lcTn (SqT.of hpl24) fun Kl hKl => ⟨fun i H' => Same H24 H' ∧ H' Kl = some (.lst (((ps.take i).map (M24.val row)).map vV)), ⟨same_new hKl _, upd_same⟩, fun i H' _ h => SqT.of (h.1 _ _ hpl24), ?_, ?_⟩
          · rintro i x H25 hi ⟨s25, eK⟩
            obtain ⟨pn, hpn2, rfl⟩ := map_get hi
            have ert25 := s25 _ _ ert24
            walk_at "g"
            refine ⟨rfl, ?_⟩
            walk_at "g"
            refine w_ixA ert25 (atI_nat (by rw [List.getElem?_map, rk_get rok (hp3 pn (List.mem_of_getElem? hpn2))]; rfl)) ?_
            refine ⟨_, eK, ?_, same_upd s25 hKl, by rw [upd_same, List.take_add_one, hpn2, List.map_append, List.map_append]; rfl⟩
            rw [List.length_map, List.length_map, List.length_take]
            exact Nat.lt_of_le_of_lt (by omega : _ ≤ 3) (by decide)
          rintro H25 ⟨s25, eK⟩
          rw [List.length_map, List.take_length] at eK
          have okr : ∀ v ∈ ps.map (M24.val row), okv v := fun v hv => by
            obtain ⟨p', _, rfl⟩ := List.mem_map.mp hv
            exact (rk_val rok p').2
          have lk1 := keyR_len okr
          rw [List.length_map] at lk1
          walk_at "g"
          refine ⟨Kl, ps.map (M24.val row), rfl, .inl (SqL.of eK), okr, by omega, fun ka H26 s26 _ eka => ?_⟩
          walk_at "g"
          intro tt htt
          have s27 := same_new htt (.tup [.int (j : Int)])
          have okj : ∀ v ∈ [RV.num (j : Int)], okv v := fun v hv => by rw [List.mem_singleton.mp hv]; exact num_ok hj2
          have lk2 := keyR_len okj
          rw [List.length_singleton] at lk2
          refine ⟨tt, [.num (j : Int)], rfl, .inr (SqT.of upd_same), okj, by omega, fun kb H28 s28 _ ekb => ?_⟩
          refine w_catInts (SqT.of (s28 _ _ (s27 _ _ eka))) (SqT.of ekb) (by omega) fun kk H29 s29 hkk => ?_
          have hkk2 : SqT K H29 kk ((keyOf row ps j).map V.int) := hkk
          have s2429 := (((s25.trans s26).trans s27).trans s28).trans s29
          have k29 := k24.trans (Kp.of s2429)
          have d29 := Gk.Dice.sm d24 s2429
          have t29 := Tk.kp k29 d19
          have ert29 := s2429 _ _ ert24
          have hpl29 := tup_tk hpl19 t29
          have hf29 := hfv.tk t29
          have he29 := he19.tk t29
          obtain ⟨dxb, qb, as, lb, hbv, hb1, hb2, hb3, hb4, hb5, hb6⟩ := hb19.tk t29
          clear s25 s26 s27 s28 s29 s2429 k24 d24 t24 ert24 hpl24 eka ekb hkk eK hKl htt
          with_reducible refine w_gname ?_
          with_reducible refine w_seqRest (fun σ' H' => H' = H29 ∧ σ' = [some (.ref a), some (.ref d), some (.ref D), v3, some (.ref tb), some (.int (j : Int)), some (.ref pl), some (.ref b), some (.ref e), some fv, some (.ref rt), v11, some (.bl (decide (tmv row T = some true))), some (.ref kk), v14, some (.bl (insB (askB (sds T) ps) (keyOf row ps j))), v16, v17, v18, v19, v20, v21, v22, v23, v24]) (fun N hN => ?_) ?_
          · cases hk : krange (askB (sds T) ps) with
            | none =>
              have e : insB (askB (sds T) ps) (keyOf row ps j) = false := by unfold insB; rw [hk]
              rw [hk] at hf29
              have hf2 : fv = .non := hf29
              subst hf2
              walk_at "g"
              exact hN _ _ ⟨rfl, by rw [e]; rfl⟩
            | some lh =>
              obtain ⟨l, h⟩ := lh
              rw [hk] at hf29
              obtain ⟨fp2, la, hv, rfl, hfp, hla, hhi⟩ := hf29
              have e : insB (askB (sds T) ps) (keyOf row ps j) = (!HT.lexLt (keyOf row ps j) l && hiB (keyOf row ps j) h) := ins_some hk
              walk_at "g"
              refine ⟨kk, la, _, _, rfl, rfl, hkk2, hla, ?_⟩
              walk_at "g"
              refine w_ite (fun c1 => ?_) (fun c1 => ?_)
              · cases h with
                | none =>
                  have h2 : hv = .non := hhi
                  subst h2
                  walk_at "g"
                  exact hN _ _ ⟨rfl, by rw [e, c1]; rfl⟩
                | some d' =>
                  obtain ⟨ha, rfl, hha⟩ := hhi
                  walk_at "g"
                  refine ⟨kk, ha, _, _, rfl, rfl, hkk2, hha, ?_⟩
                  walk_at "g"
                  exact hN _ _ ⟨rfl, by rw [e, c1]; rfl⟩
              · walk_at "g"
                exact hN _ _ ⟨rfl, by rw [e, c1]; rfl⟩
          rintro σ' H' ⟨rfl, rfl⟩
          walk_at "p"
          refine Gk.w_ifRest (fun σ' H2' => H2' = H' ∧ σ' = [some (.ref a), some (.ref d), some (.ref D), v3, some (.ref tb), some (.int (j : Int)), some (.ref pl), some (.ref b), some (.ref e), some fv, some (.ref rt), v11, some (.bl (decide (tmv row T = some true))), some (.ref kk), v14, some (.bl (insB (askB (sds T) ps) (keyOf row ps j))), v16, v17, v18, v19, v20, v21, v22, v23, v24]) (fun N hN => ?_) ?_
          · walk_at "g"
            refine w_iteD (fun c => ?_) (fun c => ?_)
            · rw [claimA rok hTw hj2 c]
              walk_at "g"
              rw [Bool.not_true]
              walk_at "g"
              exact hN _ _ ⟨rfl, by rw [claimA rok hTw hj2 c]⟩
            · walk_at "g"
              exact hN _ _ ⟨rfl, rfl⟩
          rintro σ' H2' ⟨rfl, rfl⟩
          walk_at "g"
          have las : as.length ≤ ps.length := by rw [← List.length_map (as := as) (f := (·.2)), hb4]; exact ask_len _ _
          refine F24.w_lcZT (SqT.of hpl29) (SqT.of hb2) (by rw [List.length_map, List.length_map]; exact las) fun Z hZ => ⟨fun i H' => ∃ bs : List Bool, bs.length = i ∧ Same H2' H' ∧ H' Z = some (.lst (bs.map V.bl)) ∧ (insB (askB (sds T) ps) (keyOf row ps j) = true → ∀ b ∈ bs, b = true), ⟨[], rfl, same_new hZ _, upd_same, fun _ b hb => by cases hb⟩, fun i H' ⟨_, _, s, _⟩ => ⟨SqT.of (s _ _ hpl29), SqT.of (s _ _ hb2)⟩, ?_, ?_⟩
          · rintro i x y Tp H31 hxi hyi ⟨bs, rfl, s31, eZ, hall⟩ hTp
            obtain ⟨pn, hpn2, rfl⟩ := map_get hxi
            obtain ⟨r, hr2, rfl⟩ := map_get hyi
            have rin := List.mem_of_getElem? hr2
            have hi3 := (List.getElem?_eq_some_iff.mp hpn2).1
            have hp3n := hp3 pn (List.mem_of_getElem? hpn2)
            have s32 := same_new hTp (.tup [.int (pn : Int), .ref r.1])
            have eTp : (upd H31 Tp (.tup [.int (pn : Int), .ref r.1])) Tp = some (.tup [.int (pn : Int), .ref r.1]) := upd_same
            generalize upd H31 Tp (.tup [.int (pn : Int), .ref r.1]) = H32 at s32 eTp
            have s2932 := s31.trans s32
            have ert32 := s2932 _ _ ert29
            have eZ32 := s32 _ _ eZ
            have he32 := he29.tk (Tk.of s2932)
            have hr1 : (askB (sds T) ps).1[bs.length]? = some r.2 := by rw [← hb4, List.getElem?_map, hr2]; rfl
            have gv : (row.map vV)[pn]? = some (vV (M24.val row pn)) := by rw [List.getElem?_map, rk_get rok hp3n]; rfl
            walk_at "g"
            refine ⟨rfl, ?_⟩
            walk_at "g"
            refine w_ixA ert32 (atI_nat gv) ?_
            walk_at "g"
            refine he32.at no_value ?_
            walk_at "g"
            refine ⟨e, r.1, 0, [], vV r.2, rfl, he32, .lit ((hb3 r rin).tk (Tk.of s2932)), ?_⟩
            refine w_eqDV (rk_val rok pn).2 (okB.eqs r.2 (List.mem_of_getElem? hr1)) ?_
            walk_at "g"
            refine w_iteD (fun c => ?_) (fun c => ?_)
            · walk_at "g"
              refine w_ixA ert32 (atI_nat gv) ?_
              walk_at "g"
              refine w_notNV ?_
              refine ⟨_, eZ32, by rw [List.length_map]; exact Nat.lt_of_lt_of_le (by omega : bs.length < 3) (by decide), bs ++ [!decide (M24.val row pn = .non)], by simp, same_upd s2932 hZ, by rw [upd_same, List.map_append]; rfl, fun hi2 b' hb' => ?_⟩
              rcases List.mem_append.mp hb' with hb' | hb'
              · exact hall hi2 b' hb'
              · obtain ⟨e1, e2⟩ := claimB rok hTw (by omega) hj2 hi2 _ _ _ hr1 hpn2
                rw [List.mem_singleton.mp hb', e1, decide_eq_false e2]
                rfl
            · walk_at "g"
              refine ⟨_, eZ32, by rw [List.length_map]; exact Nat.lt_of_lt_of_le (by omega : bs.length < 3) (by decide), bs ++ [false], by simp, same_upd s2932 hZ, by rw [upd_same, List.map_append]; rfl, fun hi2 b' hb' => ?_⟩
              exact absurd (claimB rok hTw (by omega) hj2 hi2 _ _ _ hr1 hpn2).1 c
          rintro H31 ⟨bs, hbl, s31, eZ, hall⟩
          have k31 := k29.trans (Kp.of s31)
          have d31 := Gk.Dice.sm d29 s31
          have hf31 := hf29.tk (Tk.of s31)
          walk_at "g"
          cases hk : krange (askB (sds T) ps) with
          | none =>
            rw [hk] at hf31
            have hf2 : fv = .non := hf31
            subst hf2
            walk_at "g"
            exact ⟨k31, d31, _, _, _, _, _, _, _, rfl⟩
          | some lh =>
            obtain ⟨l, h⟩ := lh
            rw [hk] at hf31
            obtain ⟨fp2, la, hv, rfl, hfp, hla, hhi⟩ := hf31
            walk_at "g"
            refine w_ite (fun c => ?_) (fun c => ?_)
            · walk_at "g"
              refine ⟨Z, bs.map V.bl, rfl, .inl (SqL.of eZ), rfl, bl_flat bs, ?_⟩
              rw [if_neg (by decide), noF bs (hall c)]
              walk_at "g"
              exact ⟨k31, d31, _, _, _, _, _, _, _, rfl⟩
            · walk_at "g"
              exact ⟨k31, d31, _, _, _, _, _, _, _, rfl⟩
      rintro σ H20 ⟨k20, d20, v3, v5, v10, v12, v13, v15, v16, rfl⟩
      have t20 := Tk.kp k20 d19
      have hT20 := TmO.tk t20 hT19
      have hpl20 := tup_tk hpl19 t20
      have hb20 := hb19.tk t20
      have kH := k19.trans k20
      have lcj := dep_conj T
      clear t20 hT19 hpl19 hb19 he19 hfv eD19 k19 k20 d19
      walk_at "g"
      refine ⟨tb, T, rfl, hT20, hTw.ok, by omega, fun q1 as1 H21 s21 hq1 has1 hc1 => ?_⟩
      have las1 : as1.length = dep T + 1 := by rw [← lcj, ← hc1, List.length_map]
      refine w_lcTn (SqT.of hq1) fun D8 hD8 => ⟨fun i H2' => ∃ os : List SV, Same H21 H2' ∧ H2' D8 = some (.lst (os.map svV)) ∧ os.map (Option.map (·.2.2)) = (as1.take i).map (fun r => sideOf r.2) ∧ (∀ o ∈ os, SvO H2' o), ⟨[], same_new hD8 _, upd_same, rfl, fun o ho => by cases ho⟩, fun i H2' _ ⟨os, e, _⟩ => SqT.of (e _ _ hq1), ?_, ?_⟩
      · rintro i x H22 hi ⟨os, e2, eD, he, ho⟩
        obtain ⟨r, hr2, rfl⟩ := map_get hi
        have rin := List.mem_of_getElem? hr2
        have hir := (List.getElem?_eq_some_iff.mp hr2).1
        have lo : os.length = i := by
          have h1 := congrArg List.length he
          rw [List.length_map, List.length_map, List.length_take] at h1
          omega
        have hcr : okC r.2 := (hTw r.2 (by rw [← hc1]; exact List.mem_map.mpr ⟨r, rin, rfl⟩)).ok
        walk_at "g"
        refine ⟨rfl, ?_⟩
        walk_at "g"
        refine ⟨r.1, r.2, rfl, (has1 r rin).tk (Tk.of e2), hcr, fun o H3 e3 h1 h2 => ?_⟩
        have eD3 := e3 _ _ eD
        refine ⟨_, eD3, by rw [List.length_map, lo]; exact Nat.lt_of_lt_of_le (by omega : i < 20) (by decide), os ++ [o], same_upd (e2.trans e3) hD8, by rw [upd_same, List.map_append]; rfl, ?_, fun u hu => ?_⟩
        · rw [List.map_append, he, List.take_add_one, hr2, List.map_append]
          show _ ++ [o.map (·.2.2)] = _ ++ [sideOf r.2]
          rw [h2]
        · rcases List.mem_append.mp hu with hu | hu
          · exact ((ho u hu).tk (Tk.of e3)).tk (Tk.wr eD3)
          · rw [List.mem_singleton.mp hu]
            exact h1.tk (Tk.wr eD3)
      rintro H22 ⟨os, s22, eD8, heq, ho⟩
      rw [List.length_map, List.take_length, show as1.map (fun r => sideOf r.2) = (as1.map (·.2)).map sideOf by rw [List.map_map]; rfl, hc1] at heq
      have s2022 := s21.trans s22
      clear s21 s22 hq1 has1 hD8 las1 hc1
      walk_at "g"
      refine ⟨tb, T, rfl, TmO.tk (Tk.of s2022) hT20, hTw.ok, by omega, fun q2 as2 H23 s23 hq2 has2 hc2 => ?_⟩
      walk_at "g"
      have las2 : as2.length = dep T + 1 := by rw [← lcj, ← hc2, List.length_map]
      have los : os.length = dep T + 1 := by
        have h1 := congrArg List.length heq
        rwa [List.length_map, List.length_map, lcj] at h1
      have eD823 := s23 _ _ eD8
      refine ⟨q2, D8, _, _, rfl, SqT.of hq2, SqL.of eD823, F24.for_zipM (by rw [List.length_map, List.length_map]; omega) (fun i σ H' => Same H23 H' ∧ ∃ v17 v19 v20 : Option V, σ = [some (.ref a), some (.ref d), some (.ref D), v3, some (.ref tb), v5, some (.ref pl), some (.ref b), some (.ref e), some fv, v10, v11, v12, v13, v14, v15, v16, v17, some (.ref D8), v19, v20, v21, v22, v23, v24]) ⟨fun _ _ h => h, _, _, _, rfl⟩ (fun i σ H' h => ⟨SqT.of (h.1 _ _ hq2), SqL.of (h.1 _ _ eD823)⟩) ?_ ?_⟩
      · rintro i x y Tp σ H24 hxi hyi ⟨s24, v17, v19, v20, rfl⟩ hTp
        obtain ⟨r, hr2, rfl⟩ := map_get hxi
        obtain ⟨o, ho2, rfl⟩ := map_get hyi
        have rin := List.mem_of_getElem? hr2
        have so : o.map (·.2.2) = sideOf r.2 := by
          have h1 : (os.map (Option.map (·.2.2)))[i]? = ((conj T).map sideOf)[i]? := by rw [heq]
          rw [← hc2, List.getElem?_map, List.getElem?_map, List.getElem?_map, ho2, hr2] at h1
          exact Option.some.inj h1
        have hmem : r.2 ∈ conj T := by rw [← hc2]; exact List.mem_map.mpr ⟨r, rin, rfl⟩
        have hwf := hTw r.2 hmem
        have s25 := same_new hTp (.tup [.ref r.1, svV o])
        have eTp : (upd H24 Tp (.tup [.ref r.1, svV o])) Tp = some (.tup [.ref r.1, svV o]) := upd_same
        have hso := (ho o (List.mem_of_getElem? ho2)).tk (Tk.of ((s23.trans s24).trans s25))
        have hcd := (has2 r rin).tk (Tk.of (s24.trans s25))
        have s2325 := s24.trans s25
        generalize upd H24 Tp (.tup [.ref r.1, svV o]) = H25 at s25 eTp hso hcd s2325
        obtain ⟨rc, hrc⟩ : ∃ rc, rc = r.2 := ⟨_, rfl⟩
        rw [← hrc] at hcd hwf so hmem
        walk_at "q"
        with_reducible refine w_seqRest (fun σ' H' => Same H25 H' ∧ σ' = [some (.ref a), some (.ref d), some (.ref D), v3, some (.ref tb), v5, some (.ref pl), some (.ref b), some (.ref e), some fv, v10, v11, v12, v13, v14, v15, v16, some (.ref r.1), some (.ref D8), some (svV o), some (.bl (sideOf rc).isSome), v21, v22, v23, v24]) (fun N hN => ?_) ?_
        · cases rc with
          | isn p =>
            obtain ⟨x1, h1, h2⟩ := hcd
            walk_at "g"
            exact hN _ _ ⟨fun _ _ h => h, rfl⟩
          | cmp g l r' =>
            obtain ⟨x1, y1, h1, h3, h2⟩ := hcd
            obtain ⟨pn, hpn1, hform⟩ := hwf
            walk_at "g"
            refine w_iteN (fun c => ?_) (fun c => ?_)
            · have hg : g ≠ .ne := fun z => c (by rw [z]; rfl)
              walk_at "g"
              rcases hform with ⟨rfl, rfl⟩ | ⟨v, hv, ⟨rfl, rfl⟩ | ⟨rfl, rfl⟩⟩
              · refine ⟨_, _, lf_dp h1, lf_dp h3, (lf_fine (l := .fld pn) trivial).shaped (by decide), (lf_fine (l := .fld pn) trivial).shaped (by decide), ?_⟩
                rw [(lf_fine (l := .fld pn) trivial).2.2, Bool.not_true]
                walk_at "g"
                exact hN _ _ ⟨fun _ _ h => h, rfl⟩
              · refine ⟨_, _, lf_dp h1, lf_dp h3, (lf_fine (l := .fld pn) trivial).shaped (by decide), (lf_fine (l := .lit v) hv.2).shaped (by decide), ?_⟩
                rw [(lf_eqv_ne pn v).1, Bool.not_false]
                walk_at "g"
                refine hN _ _ ⟨fun _ _ h => h, ?_⟩
                rw [show sideOf (.cmp g (.fld pn) (.lit v)) = some (pn, g, v) from if_neg hg]
                rfl
              · refine ⟨_, _, lf_dp h1, lf_dp h3, (lf_fine (l := .lit v) hv.2).shaped (by decide), (lf_fine (l := .fld pn) trivial).shaped (by decide), ?_⟩
                rw [(lf_eqv_ne pn v).2, Bool.not_false]
                walk_at "g"
                refine hN _ _ ⟨fun _ _ h => h, ?_⟩
                rw [show sideOf (.cmp g (.lit v) (.fld pn)) = some (pn, turn g, v) from if_neg hg]
                rfl
            · have hg : g = .ne := sgS_inj (str_of c)
              subst hg
              walk_at "g"
              refine hN _ _ ⟨fun _ _ h => h, ?_⟩
              rcases hform with ⟨rfl, rfl⟩ | ⟨v, hv, ⟨rfl, rfl⟩ | ⟨rfl, rfl⟩⟩
              · rfl
              · rfl
              · rfl
        rintro σ' H26 ⟨s26, rfl⟩
        have hso6 := hso.tk (Tk.of s26)
        have hcd6 := hcd.tk (Tk.of s26)
        have s2326 := s2325.trans s26
        clear hso hcd s26 s25 eTp s24 s2325
        cases o with
        | none =>
          have e1 : sideOf rc = none := so.symm
          rw [e1, show svV none = V.non from rfl, show (none : Option Side).isSome = false from rfl]
          walk_at "g"
          rw [show (false != false) = false from rfl]
          walk_at "g"
          exact ⟨s2326, _, _, _, rfl⟩
        | some k =>
          have e1 : sideOf rc = some k.2.2 := so.symm
          obtain ⟨sd1, sd2⟩ := hso6 k rfl
          have hk3 : k.2.2.1 < 3 := (sds_ok hTw k.2.2 (List.mem_filterMap.mpr ⟨rc, hmem, e1⟩)).2
          rw [e1, show svV (some k) = V.ref k.1 from rfl, show (some k.2.2 : Option Side).isSome = true from rfl]
          walk_at "g"
          rw [show (true != true) = false from rfl]
          walk_at "g"
          intro L hL
          have s27 := same_new hL (.lst [.int 0, .int 1, .int 2])
          refine ⟨L, [.int 0, .int 1, .int 2], rfl, .inl (SqL.of upd_same), rfl, rfl, ?_⟩
          rw [if_pos rfl, in012 hk3, Bool.not_true]
          have sd17 := s27 _ _ sd1
          have sd27 := sd2.tk (Tk.of s27)
          have hcd7 := hcd6.tk (Tk.of s27)
          have s2327 := s2326.trans s27
          generalize upd H26 L (.lst [.int 0, .int 1, .int 2]) = H27 at s27 sd17 sd27 hcd7 s2327
          clear sd1 sd2 hcd6 s2326 hL s27
          cases rc with
          | isn p => cases e1
          | cmp g l r' =>
            obtain ⟨x1, y1, h1, h3, h2⟩ := hcd7
            obtain ⟨pn, hpn1, hform⟩ := hwf
            rcases hform with ⟨rfl, rfl⟩ | ⟨v, hv, ⟨rfl, rfl⟩ | ⟨rfl, rfl⟩⟩
            · cases e1
            · have h1' : H27 x1 = some (.tup [.str (Str.ofString "field"), .int 0, .int (pn : Int)]) := h1
              have e2 : k.2.2 = (pn, g, v) := by
                have h9 : (if g = .ne then none else some (pn, g, v)) = some k.2.2 := e1
                by_cases c : g = .ne
                · rw [if_pos c] at h9; cases h9
                · rw [if_neg c] at h9; exact (Option.some.inj h9).symm
              have sd3 : H27 k.1 = some (.tup [.int (pn : Int), .str (sgS g), .ref k.2.1]) := by rw [sd17, e2]
              have sd4 : LfO H27 k.2.1 (.lit v) := by
                have h9 := sd27
                rw [e2] at h9
                exact h9
              clear sd17 sd27 h1
              walk_at "g"
              refine ⟨k.1, _, rfl, SqT.of sd3, fun hw => absurd hw.1 (by show ¬ (HT.sIx 3 0 (some (1 : Int)) = 0); decide), fun _ z1 hz1 => ?_⟩
              rw [show cutV [V.int (pn : Int), .str (sgS g), .ref k.2.1] (some (1 : Int)) none = [V.str (sgS g), .ref k.2.1] from cut_drop (n := 1)]
              have s28 := same_new hz1 (.tup [V.str (sgS g), .ref k.2.1])
              have ez1 : (upd H27 z1 (.tup [V.str (sgS g), .ref k.2.1])) z1 = some (.tup [V.str (sgS g), .ref k.2.1]) := upd_same
              have h28 := s28 _ _ h2
              generalize upd H27 z1 (.tup [V.str (sgS g), .ref k.2.1]) = H28 at s28 ez1 h28
              walk_at "g"
              intro z2 hz2
              have s29 := same_new hz2 (.tup [V.str (sgS g), .ref y1])
              refine w_neSame (k := 2) (SqT.of (s29 _ _ ez1)) (SqT.of upd_same) (.cons (.str _) (.cons (lf_dp (sd4.tk (Tk.of (s28.trans s29)))) .nil)) (.cons (.str _) (.cons (lf_dp (h3.tk (Tk.of (s28.trans s29)))) .nil)) (fine2 ((sg_fine g).le (by decide)) (lf_fine (l := .lit v) hv.2)) (by decide) ?_
              walk_at "g"
              exact ⟨(s2327.trans s28).trans s29, _, _, _, rfl⟩
            · obtain ⟨rest, e3, _⟩ := lf_head (.lit v)
              have h1' : H27 x1 = some (.tup (.str (Str.ofString (tagS (.lit v))) :: rest)) := by rw [← e3]; exact h1
              walk_at "g"
              refine w_ixA h1' head0 ?_
              walk_at "g"
              refine w_iteD (fun c => absurd (str_of c) (tag_lit v)) (fun _ => ?_)
              walk_at "g"
              exact ⟨s2327, _, _, _, rfl⟩
      rintro σ H24 ⟨s24, v17, v19, v20, rfl⟩
      have kn : (os.filterMap id).map (·.2.2) = sds T := known_eq heq
      have s2224 := s23.trans s24
      have eD84 := s2224 _ _ eD8
      have ho4 : ∀ o ∈ os, SvO H24 o := fun o h => (ho o h).tk (Tk.of s2224)
      have s2024 := s2022.trans s2224
      clear s2022 s23 s24 hq2 has2 hc2 las2 eD823 s2224 eD8 ho heq
      walk_at "g"
      refine w_lcLn (SqL.of eD84) fun D9 hD9 => ⟨fun i H3 => Same H24 H3 ∧ H3 D9 = some (.lst (((os.take i).filterMap id).map fun k => V.ref k.1)), ⟨same_new hD9 _, upd_same⟩, fun i H3 _ h => SqL.of (h.1 _ _ eD84), ?_, ?_⟩
      · rintro i x H3 hi ⟨e3, eD2⟩
        obtain ⟨o, ho2, rfl⟩ := map_get hi
        walk_at "g"
        refine ⟨rfl, ?_⟩
        cases o with
        | none =>
          rw [show svV none = V.non from rfl]
          walk_at "g"
          refine ⟨e3, ?_⟩
          rw [List.take_add_one, ho2, List.filterMap_append]
          simpa using eD2
        | some k =>
          rw [show svV (some k) = V.ref k.1 from rfl]
          walk_at "g"
          refine ⟨_, eD2, ?_, same_upd e3 hD9, ?_⟩
          · rw [List.length_map]
            have h1 := List.length_filterMap_le id (os.take i)
            rw [List.length_take] at h1
            exact Nat.lt_of_le_of_lt (by omega : _ ≤ 9) (by decide)
          · rw [upd_same, List.take_add_one, ho2, List.filterMap_append, List.map_append]
            rfl
      rintro H25 ⟨s25, eD9⟩
      rw [List.length_map, List.take_length] at eD9
      have hks : ∀ k ∈ os.filterMap id, SdO H25 k.1 k.2.1 k.2.2 := fun k hk => by
        obtain ⟨o, h1, h2⟩ := List.mem_filterMap.mp hk
        have h3 : o = some k := h2
        exact (ho4 o h1 k h3).tk (Tk.of s25)
      have lks : (os.filterMap id).length ≤ 9 := Nat.le_trans (List.length_filterMap_le _ _) (by omega)
      have s2025 := s2024.trans s25
      have hpl25 := s2025 _ _ hpl20
      have hb25 := hb20.tk (Tk.of s2025)
      generalize os.filterMap id = ks at eD9 kn hks lks
      clear s25 s2024 ho4 eD84 hD9 los hpl20 hb20
      walk_at "g"
      refine ⟨pl, _, rfl, SqT.of hpl25, for_enumT (fun i σ H' => Same H25 H' ∧ ∃ v3 v14 v22 : Option V, σ = [some (.ref a), some (.ref d), some (.ref D), v3, some (.ref tb), v5, some (.ref pl), some (.ref b), some (.ref e), some fv, v10, v11, v12, v13, v14, v15, v16, v17, some (.ref D8), v19, v20, some (.ref D9), v22, v23, v24]) ⟨fun _ _ h => h, _, _, _, rfl⟩ (fun i σ H' h => SqT.of (h.1 _ _ hpl25)) ?_ ?_⟩
      · rintro i x Tp σ H26 hxi ⟨s26, v3, v14, v22, rfl⟩ hTp
        obtain ⟨pn, hpn2, rfl⟩ := map_get hxi
        have s27 := same_new hTp (.tup [.int (i : Nat), .int (pn : Int)])
        have eTp : (upd H26 Tp (.tup [.int (i : Nat), .int (pn : Int)])) Tp = some (.tup [.int (i : Nat), .int (pn : Int)]) := upd_same
        have s2527 := s26.trans s27
        generalize upd H26 Tp (.tup [.int (i : Nat), .int (pn : Int)]) = H27 at s27 eTp s2527
        have eD97 := s2527 _ _ eD9
        walk_at "g"
        refine w_lcLn (SqL.of eD97) fun D10 hD10 => ⟨fun j H' => ∃ es : List (Addr × RV), Same H27 H' ∧ H' D10 = some (.lst (es.map fun r => V.ref r.1)) ∧ (∀ r ∈ es, LfO H' r.1 (.lit r.2)) ∧ es.map (·.2) = eqsOf ((ks.take j).map (·.2.2)) pn ∧ es.length ≤ j, ⟨[], same_new hD10 _, upd_same, fun r hr => (by cases hr), rfl, Nat.le_refl _⟩, fun j H' _ ⟨_, h, _⟩ => SqL.of (h _ _ eD97), ?_, ?_⟩
        · rintro j x H28 hj ⟨es, s28, eD10, hes, hee, les⟩
          obtain ⟨k, hk2, rfl⟩ := map_get hj
          have hj2 := (List.getElem?_eq_some_iff.mp hk2).1
          have sd := (hks k (List.mem_of_getElem? hk2)).tk (Tk.of (s2527.trans s28))
          have sd1 := sd.1
          have hst := eqs_step hk2 pn
          walk_at "g"
          refine ⟨rfl, ?_⟩
          walk_at "g"
          refine w_iteD (fun c => ?_) (fun c => ?_)
          · have c1 : k.2.2.1 = pn := by omega
            walk_at "g"
            refine w_iteD (fun c2 => ?_) (fun c2 => ?_)
            · have c3 : k.2.2.2.1 = .eq := sgS_inj (str_of c2)
              rw [if_pos ⟨c1, c3⟩] at hst
              walk_at "g"
              refine ⟨_, eD10, by rw [List.length_map]; exact Nat.lt_of_le_of_lt (by omega : _ ≤ 9) (by decide), es ++ [(k.2.1, k.2.2.2.2)], same_upd s28 hD10, by rw [upd_same, List.map_append]; rfl, fun r hr => ?_, by rw [List.map_append, hee, hst]; rfl, by rw [List.length_append]; exact Nat.succ_le_succ les⟩
              rcases List.mem_append.mp hr with hr | hr
              · exact (hes r hr).tk (Tk.wr eD10)
              · rw [List.mem_singleton.mp hr]
                exact sd.2.tk (Tk.wr eD10)
            · have c3 : ¬ (k.2.2.1 = pn ∧ k.2.2.2.1 = .eq) := fun z => c2 (by rw [z.2]; rfl)
              rw [if_neg c3, List.append_nil] at hst
              exact ⟨es, s28, eD10, hes, by rw [hst]; exact hee, Nat.le_succ_of_le les⟩
          · have c3 : ¬ (k.2.2.1 = pn ∧ k.2.2.2.1 = .eq) := fun z => c (by rw [z.1])
            rw [if_neg c3, List.append_nil] at hst
            walk_at "g"
            exact ⟨es, s28, eD10, hes, by rw [hst]; exact hee, Nat.le_succ_of_le les⟩
        rintro H28 ⟨es, s28, eD10, hes, hee, les⟩
        rw [List.length_map, List.take_length, kn] at hee
        rw [List.length_map] at les
        obtain ⟨ak1, ak2⟩ := ask_k (sds T) ps i pn hpn2
        have s2528 := s2527.trans s28
        obtain ⟨dxb, qb, as, lb, hbv, hb1, hb2, hb3, hb4, hb5, hb6⟩ := hb25.tk (Tk.of s2528)
        have las : as.length = (askB (sds T) ps).1.length := by rw [← hb4, List.length_map]
        walk_at "g"
        refine ⟨qb, _, rfl, .inr (SqT.of hb2), ?_⟩
        rw [List.length_map]
        walk_at "g"
        refine w_iteD (fun c => ?_) (fun c => ?_)
        · have c1 : i < as.length := by omega
          obtain ⟨r, hr2⟩ : ∃ r, as[i]? = some r := ⟨_, List.getElem?_eq_getElem c1⟩
          have rin := List.mem_of_getElem? hr2
          have e1 := ak1 r.2 (by rw [← hb4, List.getElem?_map, hr2]; rfl)
          rw [← hee] at e1
          obtain ⟨u0, ur, rfl⟩ : ∃ u0 ur, es = u0 :: ur := by
            cases es with
            | nil => cases e1
            | cons u0 ur => exact ⟨u0, ur, rfl⟩
          have e2 : u0.2 = r.2 := Option.some.inj e1
          have fr := lf_fine (l := .lit r.2) (okB.eqs r.2 (by rw [← hb4]; exact List.mem_map.mpr ⟨r, rin, rfl⟩))
          have lu := hes u0 List.mem_cons_self
          rw [e2] at lu
          rw [List.map_cons] at eD10
          walk_at "g"
          refine w_ixA hb2 (atI_nat (by rw [List.getElem?_map, hr2]; rfl)) ?_
          walk_at "g"
          refine w_ixL eD10 (show atI _ ((0 : Nat) : Int) = _ from atI_nat rfl) ?_
          refine ⟨_, _, lf_dp (hb3 r rin), lf_dp lu, fr.1, fr.1, Nat.le_trans (Nat.min_le_left _ _) (Nat.le_trans fr.2.1 (by decide)), ?_⟩
          rw [fr.2.2, Bool.not_true]
          walk_at "g"
          refine ⟨qb, _, rfl, .inr (SqT.of hb2), ?_⟩
          rw [List.length_map]
          walk_at "g"
          refine w_iteD (fun c2 => absurd c2 (by omega)) (fun _ => ?_)
          walk_at "g"
          exact ⟨s2528, _, _, _, rfl⟩
        · walk_at "g"
          refine ⟨qb, _, rfl, .inr (SqT.of hb2), ?_⟩
          rw [List.length_map]
          walk_at "g"
          refine w_iteD (fun c2 => ?_) (fun c2 => ?_)
          · have e0 : es = [] := by
              have h9 := ak2 (by omega)
              rw [← hee] at h9
              exact List.map_eq_nil_iff.mp h9
            subst e0
            walk_at "g"
            intro Em hE
            have s29 := same_new hE (.lst [])
            refine w_neNil (ds := []) (k := 0) (SqL.of (s29 _ _ eD10)) .nil (fun d hd => by cases hd) (by decide) upd_same ?_
            rw [decide_eq_true (show (([] : List (Addr × RV)).map fun r => V.ref r.1) = [] from rfl), Bool.not_true]
            walk_at "g"
            exact ⟨s2528.trans s29, _, _, _, rfl⟩
          · walk_at "g"
            exact ⟨s2528, _, _, _, rfl⟩
      rintro σ H26 ⟨s26, v3, v14, v22, rfl⟩
      have hb26 := hb25.tk (Tk.of s26)
      have s2026 := s2025.trans s26
      clear s2025 s26 hb25 hpl25 hks eD9
      walk_at "g"
      refine bo_at hb26 no_open ?_
      refine ⟨b, _, rfl, hb26, okB.eqs, fun H27 s27 => ?_⟩
      obtain ⟨dxb, qb, as, lb, hbv, hb1, hb2, hb3, hb4, hb5, hb6⟩ := hb26.tk (Tk.of s27)
      walk_at "g"
      refine bo_at (hb26.tk (Tk.of s27)) no_shown ?_
      refine ⟨b, dxb, _, _, _, rfl, hb1, fun z hz => ?_⟩
      have s28 := same_new hz (.tup [.ref qb, lb, hbv])
      have ez : (upd H27 z (.tup [.ref qb, lb, hbv])) z = some (.tup [.ref qb, lb, hbv]) := upd_same
      generalize upd H27 z (.tup [.ref qb, lb, hbv]) = H28 at s28 ez
      walk_at "g"
      intro z0 hz0
      have s29 := same_new hz0 (.tup [])
      have ez0 : (upd H28 z0 (.tup [])) z0 = some (.tup []) := upd_same
      generalize upd H28 z0 (.tup []) = H29 at s29 ez0
      walk_at "g"
      intro z1 hz1
      have s30 := same_new hz1 (.tup [.ref z0, .non, .non])
      have s2730 := (s28.trans s29).trans s30
      refine ⟨_, .tuple [.tuple [], .none, .none], .tup (SqT.of ((s29.trans s30) _ _ ez)) (.cons (.tup (SqT.of (s2730 _ _ hb2)) (lits_dp fun p hp => (hb3 p hp).tk (Tk.of s2730))) (.cons (bo_dp (hb5.tk (Tk.of s2730))) (.cons (bo_dp (hb6.tk (Tk.of s2730))) .nil))), .tup (SqT.of upd_same) (.cons (.tup (SqT.of (s30 _ _ ez0)) .nil) (.cons .non (.cons .non .nil))), (bo_shaped okB hb4).shaped (by decide), by rfl, ?_⟩
      rw [bo_eqv, opn_eq hb4]
      have s2030 := (s2026.trans s27).trans s2730
      have hb30 := hb26.tk (Tk.of (s27.trans s2730))
      generalize upd H29 z1 (.tup [.ref z0, .non, .non]) = H30 at s30 s2730 s2030 hb30
      have d30 := Gk.Dice.sm d20 s2030
      have hT30 := TmO.tk (Tk.of s2030) hT20
      clear s27 s28 s29 s30 s2730 s2026 ez ez0 hb1 hb2 hb3 hb5 hb6 hz hz0 hz1
      walk_at "g"
      rw [show ((opn (askB (sds T) ps)) != (opn (askB (sds T) ps))) = false by simp]
      walk_at "g"
      refine w_roll (by decide) (by decide) (kH.trans (Kp.of s2030)) d30 fun m H31 m0 m1 k31 k3031 d31 => ?_
      have t31 := Tk.kp k3031 d30
      have hb31 := hb30.tk t31
      have hT31 := TmO.tk t31 hT30
      clear hb30 hT30 t31 k3031 d30 s2030 kH
      walk_at "p"
      refine Gk.w_ifRest (fun σ' H' => Same H31 H' ∧ σ' = [some (.ref a), some (.ref d), some (.ref D), v3, some (.ref tb), v5, some (.ref pl), some (.ref b), some (.ref e), some fv, v10, v11, v12, v13, v14, v15, v16, v17, some (.ref D8), v19, v20, some (.ref D9), v22, some (.int m), v24]) (fun N hN => ?_) ?_
      · walk_at "g"
        refine ⟨b, _, m, rfl, hb31, m0, fun r1 H32 s32 r10 r11 r12 => ?_⟩
        walk_at "g"
        refine w_iteD (fun _ => ?_) (fun c => absurd r10 c)
        walk_at "g"
        rw [decide_eq_true r11, Bool.not_true]
        walk_at "g"
        have hb32 := hb31.tk (Tk.of s32)
        refine bo_at hb32 no_open ?_
        refine ⟨b, _, rfl, hb32, okB.eqs, fun H33 s33 => ?_⟩
        have hb33 := hb32.tk (Tk.of s33)
        with_reducible refine w_bl ?_
        have s3133 := s32.trans s33
        refine w_ite (fun c => ?_) (fun c => ?_)
        · walk_at "g"
          refine ⟨b, _, m, rfl, hb33, m0, fun r2 H34 s34 _ _ q12 => ?_⟩
          have e1 : r2 = m := q12 c
          walk_at "g"
          refine w_iteN (fun c2 => absurd e1 c2) (fun _ => ?_)
          walk_at "g"
          exact hN _ _ ⟨s3133.trans s34, rfl⟩
        · walk_at "g"
          exact hN _ _ ⟨s3133, rfl⟩
      rintro σ' H32 ⟨s32, rfl⟩
      have hT32 := TmO.tk (Tk.of s32) hT31
      have k32 := k31.trans (Kp.of s32)
      have d32 := Gk.Dice.sm d31 s32
      clear hb31 hT31 k31 d31 s32
      walk_at "g"
      intro z1 hz1
      have s33 := same_new hz1 (.tup [.str (Str.ofString "scan"), .str (Str.ofString "t"), .int 3])
      have ez1 : (upd H32 z1 (.tup [.str (Str.ofString "scan"), .str (Str.ofString "t"), .int 3])) z1 = some (.tup [.str (Str.ofString "scan"), .str (Str.ofString "t"), .int 3]) := upd_same
      generalize upd H32 z1 (.tup [.str (Str.ofString "scan"), .str (Str.ofString "t"), .int 3]) = H33 at s33 ez1
      walk_at "g"
      intro z2 hz2
      have s34 := same_new hz2 (.tup [.str (Str.ofString "filter"), .ref tb, .ref z1])
      have ez2 : (upd H33 z2 (.tup [.str (Str.ofString "filter"), .ref tb, .ref z1])) z2 = some (.tup [.str (Str.ofString "filter"), .ref tb, .ref z1]) := upd_same
      generalize upd H33 z2 (.tup [.str (Str.ofString "filter"), .ref tb, .ref z1]) = H34 at s34 ez2
      walk_at "g"
      refine w_dispT (i := 0) (n := m) (fun H' R h => ?_) (fun pd H35 s35 ed => ?_)
      · walk_at "g"
        exact h
      have s3235 := (s33.trans s34).trans s35
      walk_at "g"
      refine ⟨z2, pd, [(kT, .int m)], m, rfl, ed, val_t m, .inl ⟨tb, z1, T, 3, s35 _ _ ez2, (s34.trans s35) _ _ ez1, TmO.tk (Tk.of s3235) hT32, hTw.ok, by omega, m0, fun r H36 s36 r0 r1 => ?_⟩⟩
      walk_at "g"
      refine w_iteD (fun _ => ?_) (fun c => absurd r0 c)
      walk_at "g"
      rw [decide_eq_true r1, Bool.not_true]
      walk_at "g"
      have s3236 := s3235.trans s36
      exact ⟨g.kp hdd (k32.trans (Kp.of s3236)) (Gk.Dice.sm d32 s3236), _, _, _, _, _, _, _, _, _, _, _, _, _, _, _, _, _, _, _, _, _, _, _, _, rfl⟩
  · rintro σ H2 ⟨g, v1, v2, v3, v4, v5, v6, v7, v8, v9, v10, v11, v12, v13, v14, v15, v16, v17, v18, v19, v20, v21, v22, v23, v24, rfl⟩
    have q2 : ∀ H', Q (.bl true) H' := q
    walk_at "g"
    intro z1 hz1
    have s33 := same_new hz1 (.tup [.str (Str.ofString "scan"), .str (Str.ofString "t"), .int 3])
    have ez1 : (upd H2 z1 (.tup [.str (Str.ofString "scan"), .str (Str.ofString "t"), .int 3])) z1 = some (.tup [.str (Str.ofString "scan"), .str (Str.ofString "t"), .int 3]) := upd_same
    generalize upd H2 z1 (.tup [.str (Str.ofString "scan"), .str (Str.ofString "t"), .int 3]) = H33 at s33 ez1
    walk_at "g"
    intro z2 hz2
    have s34 := same_new hz2 (.tup [.str (Str.ofString "limit"), .int 3, .int 1, .ref z1])
    have ez2 : (upd H33 z2 (.tup [.str (Str.ofString "limit"), .int 3, .int 1, .ref z1])) z2 = some (.tup [.str (Str.ofString "limit"), .int 3, .int 1, .ref z1]) := upd_same
    generalize upd H33 z2 (.tup [.str (Str.ofString "limit"), .int 3, .int 1, .ref z1]) = H34 at s34 ez2
    walk_at "g"
    refine w_dispT (i := 0) (n := 9) (fun H' R h => ?_) (fun pd H35 s35 ed => ?_)
    · walk_at "g"
      exact h
    walk_at "g"
    refine ⟨z2, pd, [(kT, .int 9)], 9, rfl, ed, val_t 9, .inr (.inl ⟨z1, 3, rfl, s35 _ _ ez2, (s34.trans s35) _ _ ez1, fun H36 s36 => ?_⟩)⟩
    walk_at "g"
    refine w_iteD (fun _ => ?_) (fun c => absurd rfl c)
    walk_at "g"
    intro u hu
    have s37 := same_new hu (.tup [.str (Str.ofString "unit")])
    have eu : (upd H36 u (.tup [.str (Str.ofString "unit")])) u = some (.tup [.str (Str.ofString "unit")]) := upd_same
    generalize upd H36 u (.tup [.str (Str.ofString "unit")]) = H37 at s37 eu
    walk_at "g"
    intro z3 hz3
    have s38 := same_new hz3 (.tup [.str (Str.ofString "scan"), .str (Str.ofString "t"), .int 1])
    have ez3 : (upd H37 z3 (.tup [.str (Str.ofString "scan"), .str (Str.ofString "t"), .int 1])) z3 = some (.tup [.str (Str.ofString "scan"), .str (Str.ofString "t"), .int 1]) := upd_same
    generalize upd H37 z3 (.tup [.str (Str.ofString "scan"), .str (Str.ofString "t"), .int 1]) = H38 at s38 ez3
    walk_at "g"
    intro z4 hz4
    have s39 := same_new hz4 (.tup [.str (Str.ofString "join"), .bl true, .non, .ref u, .ref z3])
    have ez4 : (upd H38 z4 (.tup [.str (Str.ofString "join"), .bl true, .non, .ref u, .ref z3])) z4 = some (.tup [.str (Str.ofString "join"), .bl true, .non, .ref u, .ref z3]) := upd_same
    generalize upd H38 z4 (.tup [.str (Str.ofString "join"), .bl true, .non, .ref u, .ref z3]) = H39 at s39 ez4
    walk_at "g"
    intro pd2 hpd2
    have s40 := same_new hpd2 (.dK [])
    refine ⟨z4, pd2, [], 0, rfl, upd_same, rfl, .inr (.inr ⟨u, z3, 1, rfl, s40 _ _ ez4, ((s38.trans s39).trans s40) _ _ eu, (s39.trans s40) _ _ ez3, fun H41 s41 => ?_⟩)⟩
    walk_at "g"
    refine w_iteD (fun _ => ?_) (fun c => absurd rfl c)
    walk_at "g"
    intro t0 ht0
    have et0 : (upd H41 t0 (.tup [])) t0 = some (.tup []) := upd_same
    generalize upd H41 t0 (.tup []) = H42 at et0
    walk_at "g"
    intro x dx hx hdx ne
    refine ⟨x, dx, t0, .non, .non, [], rfl, upd_same, .inr (by rw [upd_ne (ne_of_none et0 hx), upd_ne (ne_of_none et0 hdx)]; exact et0), fun q' H43 keep hx43 hq43 => ⟨rfl, ?_⟩⟩
    have bo : BoO ad H43 x ([], none, none) := ⟨dx, q', [], .non, .non, hx43, hq43, fun p hp => (by cases hp), rfl, rfl, rfl⟩
    refine bo_at bo no_open ?_
    exact ⟨x, _, rfl, bo, fun v hv => (by cases hv), fun H44 _ => q2 H44⟩
end
end K24
end

section
-- part K24L
set_option Elab.async false
set_option linter.all false
set_option maxRecDepth 100000
set_option maxHeartbeats 2000000
/-! K24L: the top's dicts and tuples, as Bools -/
namespace K24
open PySem PySem.Spec PyProof.Rows L2 Fw Dc Gk M24 M5
abbrev Ct (mg : Str → Option Value) (x : Str) (l : List Nat) : Prop := Ctx mg x l
abbrev adK (K : PySem.W.Frag) : Ad := ⟨He.ga K "Evaluator", He.ga K "Bounds", He.ga K "VALUES", He.ga K "INPUT_PLACES", He.ga K "PART_PLACES", He.ga K "QUERY_PLACES", He.ga K "TURNED", He.ga K "LOW_SIGNS", He.ga K "HIGH_SIGNS", emA K⟩
theorem wk_of {K : PySem.W.Frag} {w : World} {mg : Str → Option Value} (V : ∃ es n, KDict K w (He.ga K "VALUES") es n) (I : ∃ es n, KDict K w (He.ga K "INPUT_PLACES") es n) (P : ∃ es n, KDict K w (He.ga K "PART_PLACES") es n) (Q : ∃ es n, KDict K w (He.ga K "QUERY_PLACES") es n) (T : ∃ es n, KDict K w (He.ga K "TURNED") es n)
    (hv : exV K = true) (hi : exI K = true) (hp : exP K = true) (hq : exQ K = true) (ht : exT K = true) (m1 : mg "null_value" = some (.ref (He.ga K "null_value"))) (m2 : mg "known_value" = some (.ref (He.ga K "known_value"))) (m3 : mg "field_value" = some (.ref (He.ga K "field_value")))
    (m4 : mg "comparison_truth" = some (.ref (He.ga K "comparison_truth"))) (m5 : mg "and_truth" = some (.ref (He.ga K "and_truth"))) (m6 : mg "isnull_truth" = some (.ref (He.ga K "isnull_truth"))) : Wk K w mg (adK K) := by
  obtain ⟨v1, hv⟩ := He.ba hv
  obtain ⟨v2, hv⟩ := He.ba hv
  obtain ⟨v3, hv⟩ := He.ba hv
  obtain ⟨v4, hv⟩ := He.ba hv
  obtain ⟨v5, hv⟩ := He.ba hv
  obtain ⟨v6, v7⟩ := He.ba hv
  obtain ⟨i1, hi⟩ := He.ba hi
  obtain ⟨i2, i3⟩ := He.ba hi
  obtain ⟨t1, t2⟩ := He.ba ht
  exact ⟨V, I, P, Q, T, ⟨_, m1, He.eqO_ok v1⟩, ⟨_, m2, He.eqO_ok v2⟩, ⟨_, m2, He.eqO_ok v3⟩, ⟨_, m3, He.eqO_ok v4⟩, ⟨_, m4, He.eqO_ok v5⟩, ⟨_, m5, He.eqO_ok v6⟩, ⟨_, m6, He.eqO_ok v7⟩, kInt_ok i1, kInt_ok i2, kInt_ok i3,
    fun z hz => kTup_ok (List.all_eq_true.mp hp z hz), fun z hz => He.eqO_ok (List.all_eq_true.mp hq z hz), fun g hg => kStr_ok (List.all_eq_true.mp t1 g (by cases g <;> first | exact absurd rfl hg | simp)), He.eqO_ok t2⟩
end K24
end

section
-- part K24XI
set_option Elab.async false
set_option linter.all false
set_option maxRecDepth 100000
set_option maxHeartbeats 2000000
namespace K24
open PySem PySem.Spec PyProof.Rows L2 Fw LamX Dc Gk M24 M5

theorem facts {w : World} {K : PySem.W.Frag} {h : Heap} {mg : Str → Option Value} (X : K.In h) (G : h.Ns mainGlobals mg) (c : He.SaysX faD fnD [((fun K => He.ga K "VALUES"), [("null" : Str) , ("int" : Str) , ("text" : Str) , ("truth" : Str) , ("field" : Str) , ("op" : Str) , ("neg" : Str) , ("cmp" : Str) , ("and" : Str) , ("or" : Str) , ("not" : Str) , ("isnull" : Str) , ("in" : Str) , ("inquery" : Str) , ("between" : Str) , ("like" : Str) , ("case" : Str) , ("exists" : Str) , ("scalar" : Str)]), ((fun K => He.ga K "INPUT_PLACES"), [("unit" : Str) , ("scan" : Str) , ("filter" : Str) , ("project" : Str) , ("join" : Str) , ("group" : Str) , ("distinct" : Str) , ("union" : Str) , ("except" : Str) , ("intersect" : Str) , ("sort" : Str) , ("limit" : Str)]), ((fun K => He.ga K "PART_PLACES"), [("field" : Str) , ("truth" : Str) , ("null" : Str) , ("int" : Str) , ("text" : Str) , ("exists" : Str) , ("scalar" : Str) , ("neg" : Str) , ("not" : Str) , ("isnull" : Str) , ("inquery" : Str) , ("op" : Str) , ("cmp" : Str) , ("and" : Str) , ("or" : Str) , ("like" : Str) , ("between" : Str)]), ((fun K => He.ga K "QUERY_PLACES"), [("exists" : Str) , ("scalar" : Str) , ("inquery" : Str)]), ((fun K => He.ga K "TURNED"), [("=" : Str) , ("<" : Str) , ("<=" : Str) , (">" : Str) , (">=" : Str)])] tfD exD w h K) :
    Ws K mg (adK K) := by
  have d := c.t.d
  have glo : ∀ {x : Str}, (He.Fa.glo x).ok K = true → mg x = some (.ref (He.ga K x)) := fun h => He.glo_ok X G h
  have fre : ∀ {x : Str}, (He.Fa.free x).ok K = true → mg x = none := fun h => He.free_ok X G h
  have st : ∀ {x : Str} {l : List Nat}, (He.Fa.str x (S l)).ok K = true → Ct mg x l := fun h => by
    obtain ⟨t, e⟩ := He.str_ok X G h
    exact ⟨_, e, t, rfl⟩
  have it : ∀ {x : Str} {n : Int}, (He.Fa.int x n).ok K = true → Cin mg x n := fun h => by
    obtain ⟨t, e⟩ := He.int_ok X G h
    exact ⟨_, e, t, rfl⟩

  have hx := c.more
  unfold exD at hx
  obtain ⟨hx0, hx⟩ := He.ba hx
  obtain ⟨hx1, hx⟩ := He.ba hx
  obtain ⟨hx2, hx⟩ := He.ba hx
  obtain ⟨hx3, hx⟩ := He.ba hx
  obtain ⟨hx4, hx⟩ := He.ba hx
  have hx5 := hx
  exact {
    e_cl := He.cls_ok (d.fact 72 (f := .cls "Evaluator") rfl)
    e_origin := He.noat_ok (d.fact 73 (f := .noat "Evaluator" "origin") rfl)
    e_rows := He.noat_ok (d.fact 74 (f := .noat "Evaluator" "rows") rfl)
    e_kept_rows := He.noat_ok (d.fact 75 (f := .noat "Evaluator" "kept_rows") rfl)
    e_g := glo (d.fact 41 (f := .glo "Evaluator") rfl)
    e_i := by
      obtain ⟨fd, q⟩ := d.def_ 41 (d := ⟨("Evaluator", some "__init__"), "__init__", "Evaluator.__init__", defArgs s_Evaluator___init__, defBody s_Evaluator___init__, defScope s_Evaluator___init__, [.adr (He.dflAt ("Evaluator", some "__init__") 0)], []⟩) rfl
      exact ⟨_, fd, q, He.mkr_ok (d.fact 78 (f := .mkr "Evaluator") rfl)⟩
    e_within := by
      obtain ⟨fd, q⟩ := d.def_ 42 (d := ⟨("Evaluator", some "within"), "within", "Evaluator.within", defArgs s_Evaluator_within, defBody s_Evaluator_within, defScope s_Evaluator_within, [], []⟩) rfl
      exact ⟨_, fd, q, He.meth_ok (d.fact 76 (f := .meth "Evaluator" "within") rfl)⟩
    e_value_of := by
      obtain ⟨fd, q⟩ := d.def_ 43 (d := ⟨("Evaluator", some "value_of"), "value_of", "Evaluator.value_of", defArgs s_Evaluator_value_of, defBody s_Evaluator_value_of, defScope s_Evaluator_value_of, [], []⟩) rfl
      exact ⟨_, fd, q, He.meth_ok (d.fact 77 (f := .meth "Evaluator" "value_of") rfl)⟩
    b_cl := He.cls_ok (d.fact 79 (f := .cls "Bounds") rfl)
    b_equals := He.noat_ok (d.fact 80 (f := .noat "Bounds" "equals") rfl)
    b_low := He.noat_ok (d.fact 81 (f := .noat "Bounds" "low") rfl)
    b_high := He.noat_ok (d.fact 82 (f := .noat "Bounds" "high") rfl)
    b_g := glo (d.fact 42 (f := .glo "Bounds") rfl)
    b_i := by
      obtain ⟨fd, q⟩ := d.def_ 44 (d := ⟨("Bounds", some "__init__"), "__init__", "Bounds.__init__", defArgs s_Bounds___init__, defBody s_Bounds___init__, defScope s_Bounds___init__, [], []⟩) rfl
      exact ⟨_, fd, q, He.mkr_ok (d.fact 85 (f := .mkr "Bounds") rfl)⟩
    b_is_open := by
      obtain ⟨fd, q⟩ := d.def_ 45 (d := ⟨("Bounds", some "is_open"), "is_open", "Bounds.is_open", defArgs s_Bounds_is_open, defBody s_Bounds_is_open, defScope s_Bounds_is_open, [], []⟩) rfl
      exact ⟨_, fd, q, He.meth_ok (d.fact 83 (f := .meth "Bounds" "is_open") rfl)⟩
    b_shown := by
      obtain ⟨fd, q⟩ := d.def_ 46 (d := ⟨("Bounds", some "shown"), "shown", "Bounds.shown", defArgs s_Bounds_shown, defBody s_Bounds_shown, defScope s_Bounds_shown, [], []⟩) rfl
      exact ⟨_, fd, q, He.meth_ok (d.fact 84 (f := .meth "Bounds" "shown") rfl)⟩
    n_abs := fre (d.fact 50 (f := .free "abs") rfl)
    n_int := fre (d.fact 51 (f := .free "int") rfl)
    n_str := fre (d.fact 52 (f := .free "str") rfl)
    n_len := fre (d.fact 53 (f := .free "len") rfl)
    n_range := fre (d.fact 54 (f := .free "range") rfl)
    n_isinstance := fre (d.fact 55 (f := .free "isinstance") rfl)
    n_tuple := fre (d.fact 56 (f := .free "tuple") rfl)
    n_sorted := fre (d.fact 57 (f := .free "sorted") rfl)
    n_max := fre (d.fact 58 (f := .free "max") rfl)
    n_min := fre (d.fact 59 (f := .free "min") rfl)
    n_zip := fre (d.fact 60 (f := .free "zip") rfl)
    n_enumerate := fre (d.fact 61 (f := .free "enumerate") rfl)
    d_kind_of := by
      obtain ⟨fd, q⟩ := d.def_ 0 (d := ⟨("kind_of", none), "kind_of", "kind_of", defArgs s_kind_of, defBody s_kind_of, defScope s_kind_of, [], []⟩) rfl
      exact ⟨_, fd, q, glo (d.fact 0 (f := .glo "kind_of") rfl)⟩
    d_same_kind := by
      obtain ⟨fd, q⟩ := d.def_ 1 (d := ⟨("same_kind", none), "same_kind", "same_kind", defArgs s_same_kind, defBody s_same_kind, defScope s_same_kind, [], []⟩) rfl
      exact ⟨_, fd, q, glo (d.fact 1 (f := .glo "same_kind") rfl)⟩
    d_compare := by
      obtain ⟨fd, q⟩ := d.def_ 2 (d := ⟨("compare", none), "compare", "compare", defArgs s_compare, defBody s_compare, defScope s_compare, [], []⟩) rfl
      exact ⟨_, fd, q, glo (d.fact 2 (f := .glo "compare") rfl)⟩
    d_both := by
      obtain ⟨fd, q⟩ := d.def_ 3 (d := ⟨("both", none), "both", "both", defArgs s_both, defBody s_both, defScope s_both, [], []⟩) rfl
      exact ⟨_, fd, q, glo (d.fact 3 (f := .glo "both") rfl)⟩
    d_negated := by
      obtain ⟨fd, q⟩ := d.def_ 4 (d := ⟨("negated", none), "negated", "negated", defArgs s_negated, defBody s_negated, defScope s_negated, [], []⟩) rfl
      exact ⟨_, fd, q, glo (d.fact 4 (f := .glo "negated") rfl)⟩
    d_sign_number := by
      obtain ⟨fd, q⟩ := d.def_ 5 (d := ⟨("sign_number", none), "sign_number", "sign_number", defArgs s_sign_number, defBody s_sign_number, defScope s_sign_number, [], []⟩) rfl
      exact ⟨_, fd, q, glo (d.fact 5 (f := .glo "sign_number") rfl)⟩
    d_fixed := by
      obtain ⟨fd, q⟩ := d.def_ 6 (d := ⟨("fixed", none), "fixed", "fixed", defArgs s_fixed, defBody s_fixed, defScope s_fixed, [], []⟩) rfl
      exact ⟨_, fd, q, glo (d.fact 6 (f := .glo "fixed") rfl)⟩
    d_key_of_value := by
      obtain ⟨fd, q⟩ := d.def_ 7 (d := ⟨("key_of_value", none), "key_of_value", "key_of_value", defArgs s_key_of_value, defBody s_key_of_value, defScope s_key_of_value, [], []⟩) rfl
      exact ⟨_, fd, q, glo (d.fact 7 (f := .glo "key_of_value") rfl)⟩
    d_key_of := by
      obtain ⟨fd, q⟩ := d.def_ 8 (d := ⟨("key_of", none), "key_of", "key_of", defArgs s_key_of, defBody s_key_of, defScope s_key_of, [], []⟩) rfl
      exact ⟨_, fd, q, glo (d.fact 8 (f := .glo "key_of") rfl)⟩
    d_upper_key := by
      obtain ⟨fd, q⟩ := d.def_ 9 (d := ⟨("upper_key", none), "upper_key", "upper_key", defArgs s_upper_key, defBody s_upper_key, defScope s_upper_key, [], []⟩) rfl
      exact ⟨_, fd, q, glo (d.fact 9 (f := .glo "upper_key") rfl)⟩
    d_input_place := by
      obtain ⟨fd, q⟩ := d.def_ 10 (d := ⟨("input_place", none), "input_place", "input_place", defArgs s_input_place, defBody s_input_place, defScope s_input_place, [], []⟩) rfl
      exact ⟨_, fd, q, glo (d.fact 10 (f := .glo "input_place") rfl)⟩
    d_inputs := by
      obtain ⟨fd, q⟩ := d.def_ 11 (d := ⟨("inputs", none), "inputs", "inputs", defArgs s_inputs, defBody s_inputs, defScope s_inputs, [], []⟩) rfl
      exact ⟨_, fd, q, glo (d.fact 11 (f := .glo "inputs") rfl)⟩
    d_own_plans := by
      obtain ⟨fd, q⟩ := d.def_ 12 (d := ⟨("own_plans", none), "own_plans", "own_plans", defArgs s_own_plans, defBody s_own_plans, defScope s_own_plans, [], []⟩) rfl
      exact ⟨_, fd, q, glo (d.fact 12 (f := .glo "own_plans") rfl)⟩
    d_part_places := by
      obtain ⟨fd, q⟩ := d.def_ 13 (d := ⟨("part_places", none), "part_places", "part_places", defArgs s_part_places, defBody s_part_places, defScope s_part_places, [], []⟩) rfl
      exact ⟨_, fd, q, glo (d.fact 13 (f := .glo "part_places") rfl)⟩
    d_bound_parts := by
      obtain ⟨fd, q⟩ := d.def_ 14 (d := ⟨("bound_parts", none), "bound_parts", "bound_parts", defArgs s_bound_parts, defBody s_bound_parts, defScope s_bound_parts, [], []⟩) rfl
      exact ⟨_, fd, q, glo (d.fact 14 (f := .glo "bound_parts") rfl)⟩
    d_reads := by
      obtain ⟨fd, q⟩ := d.def_ 15 (d := ⟨("reads", none), "reads", "reads", defArgs s_reads, defBody s_reads, defScope s_reads, [], []⟩) rfl
      exact ⟨_, fd, q, glo (d.fact 15 (f := .glo "reads") rfl)⟩
    d_fields_in := by
      obtain ⟨fd, q⟩ := d.def_ 16 (d := ⟨("fields_in", none), "fields_in", "fields_in", defArgs s_fields_in, defBody s_fields_in, defScope s_fields_in, [.int 0], []⟩) rfl
      exact ⟨_, fd, q, glo (d.fact 16 (f := .glo "fields_in") rfl)⟩
    d_null_value := by
      obtain ⟨fd, q⟩ := d.def_ 17 (d := ⟨("null_value", none), "null_value", "null_value", defArgs s_null_value, defBody s_null_value, defScope s_null_value, [], []⟩) rfl
      exact ⟨_, fd, q, glo (d.fact 17 (f := .glo "null_value") rfl)⟩
    d_known_value := by
      obtain ⟨fd, q⟩ := d.def_ 18 (d := ⟨("known_value", none), "known_value", "known_value", defArgs s_known_value, defBody s_known_value, defScope s_known_value, [], []⟩) rfl
      exact ⟨_, fd, q, glo (d.fact 18 (f := .glo "known_value") rfl)⟩
    d_field_value := by
      obtain ⟨fd, q⟩ := d.def_ 19 (d := ⟨("field_value", none), "field_value", "field_value", defArgs s_field_value, defBody s_field_value, defScope s_field_value, [], []⟩) rfl
      exact ⟨_, fd, q, glo (d.fact 19 (f := .glo "field_value") rfl)⟩
    d_comparison_truth := by
      obtain ⟨fd, q⟩ := d.def_ 20 (d := ⟨("comparison_truth", none), "comparison_truth", "comparison_truth", defArgs s_comparison_truth, defBody s_comparison_truth, defScope s_comparison_truth, [], []⟩) rfl
      exact ⟨_, fd, q, glo (d.fact 20 (f := .glo "comparison_truth") rfl)⟩
    d_and_truth := by
      obtain ⟨fd, q⟩ := d.def_ 21 (d := ⟨("and_truth", none), "and_truth", "and_truth", defArgs s_and_truth, defBody s_and_truth, defScope s_and_truth, [], []⟩) rfl
      exact ⟨_, fd, q, glo (d.fact 21 (f := .glo "and_truth") rfl)⟩
    d_asked := by
      obtain ⟨fd, q⟩ := d.def_ 22 (d := ⟨("asked", none), "asked", "asked", defArgs s_asked, defBody s_asked, defScope s_asked, [], []⟩) rfl
      exact ⟨_, fd, q, glo (d.fact 22 (f := .glo "asked") rfl)⟩
    d_isnull_truth := by
      obtain ⟨fd, q⟩ := d.def_ 23 (d := ⟨("isnull_truth", none), "isnull_truth", "isnull_truth", defArgs s_isnull_truth, defBody s_isnull_truth, defScope s_isnull_truth, [], []⟩) rfl
      exact ⟨_, fd, q, glo (d.fact 23 (f := .glo "isnull_truth") rfl)⟩
    d_bound_conjuncts := by
      obtain ⟨fd, q⟩ := d.def_ 24 (d := ⟨("bound_conjuncts", none), "bound_conjuncts", "bound_conjuncts", defArgs s_bound_conjuncts, defBody s_bound_conjuncts, defScope s_bound_conjuncts, [], []⟩) rfl
      exact ⟨_, fd, q, glo (d.fact 24 (f := .glo "bound_conjuncts") rfl)⟩
    d_sided := by
      obtain ⟨fd, q⟩ := d.def_ 25 (d := ⟨("sided", none), "sided", "sided", defArgs s_sided, defBody s_sided, defScope s_sided, [], []⟩) rfl
      exact ⟨_, fd, q, glo (d.fact 25 (f := .glo "sided") rfl)⟩
    d_is_own_field := by
      obtain ⟨fd, q⟩ := d.def_ 26 (d := ⟨("is_own_field", none), "is_own_field", "is_own_field", defArgs s_is_own_field, defBody s_is_own_field, defScope s_is_own_field, [], []⟩) rfl
      exact ⟨_, fd, q, glo (d.fact 26 (f := .glo "is_own_field") rfl)⟩
    d_asked_of := by
      obtain ⟨fd, q⟩ := d.def_ 27 (d := ⟨("asked_of", none), "asked_of", "asked_of", defArgs s_asked_of, defBody s_asked_of, defScope s_asked_of, [], []⟩) rfl
      exact ⟨_, fd, q, glo (d.fact 27 (f := .glo "asked_of") rfl)⟩
    d_first_bound := by
      obtain ⟨fd, q⟩ := d.def_ 28 (d := ⟨("first_bound", none), "first_bound", "first_bound", defArgs s_first_bound, defBody s_first_bound, defScope s_first_bound, [], []⟩) rfl
      exact ⟨_, fd, q, glo (d.fact 28 (f := .glo "first_bound") rfl)⟩
    d_key_range := by
      obtain ⟨fd, q⟩ := d.def_ 29 (d := ⟨("key_range", none), "key_range", "key_range", defArgs s_key_range, defBody s_key_range, defScope s_key_range, [], []⟩) rfl
      exact ⟨_, fd, q, glo (d.fact 29 (f := .glo "key_range") rfl)⟩
    d_selectivity := by
      obtain ⟨fd, q⟩ := d.def_ 30 (d := ⟨("selectivity", none), "selectivity", "selectivity", defArgs s_selectivity, defBody s_selectivity, defScope s_selectivity, [], []⟩) rfl
      exact ⟨_, fd, q, glo (d.fact 30 (f := .glo "selectivity") rfl)⟩
    d_part_left := by
      obtain ⟨fd, q⟩ := d.def_ 31 (d := ⟨("part_left", none), "part_left", "part_left", defArgs s_part_left, defBody s_part_left, defScope s_part_left, [], []⟩) rfl
      exact ⟨_, fd, q, glo (d.fact 31 (f := .glo "part_left") rfl)⟩
    d_expected_rows := by
      obtain ⟨fd, q⟩ := d.def_ 32 (d := ⟨("expected_rows", none), "expected_rows", "expected_rows", defArgs s_expected_rows, defBody s_expected_rows, defScope s_expected_rows, [], []⟩) rfl
      exact ⟨_, fd, q, glo (d.fact 32 (f := .glo "expected_rows") rfl)⟩
    d_expected_pairs := by
      obtain ⟨fd, q⟩ := d.def_ 33 (d := ⟨("expected_pairs", none), "expected_pairs", "expected_pairs", defArgs s_expected_pairs, defBody s_expected_pairs, defScope s_expected_pairs, [], []⟩) rfl
      exact ⟨_, fd, q, glo (d.fact 33 (f := .glo "expected_pairs") rfl)⟩
    d__law_dice := by
      obtain ⟨fd, q⟩ := d.def_ 34 (d := ⟨("_law_dice", none), "_law_dice", "_law_dice", defArgs s__law_dice, defBody s__law_dice, defScope s__law_dice, [], []⟩) rfl
      exact ⟨_, fd, q, glo (d.fact 34 (f := .glo "_law_dice") rfl)⟩
    d__law_roll := by
      obtain ⟨fd, q⟩ := d.def_ 35 (d := ⟨("_law_roll", none), "_law_roll", "_law_roll", defArgs s__law_roll, defBody s__law_roll, defScope s__law_roll, [], []⟩) rfl
      exact ⟨_, fd, q, glo (d.fact 35 (f := .glo "_law_roll") rfl)⟩
    d__law_rounds := by
      obtain ⟨fd, q⟩ := d.def_ 36 (d := ⟨("_law_rounds", none), "_law_rounds", "_law_rounds", defArgs s__law_rounds, defBody s__law_rounds, defScope s__law_rounds, [], []⟩) rfl
      exact ⟨_, fd, q, glo (d.fact 36 (f := .glo "_law_rounds") rfl)⟩
    d__law_value := by
      obtain ⟨fd, q⟩ := d.def_ 37 (d := ⟨("_law_value", none), "_law_value", "_law_value", defArgs s__law_value, defBody s__law_value, defScope s__law_value, [], []⟩) rfl
      exact ⟨_, fd, q, glo (d.fact 37 (f := .glo "_law_value") rfl)⟩
    d__law_literal := by
      obtain ⟨fd, q⟩ := d.def_ 38 (d := ⟨("_law_literal", none), "_law_literal", "_law_literal", defArgs s__law_literal, defBody s__law_literal, defScope s__law_literal, [], []⟩) rfl
      exact ⟨_, fd, q, glo (d.fact 38 (f := .glo "_law_literal") rfl)⟩
    d__law_cond := by
      obtain ⟨fd, q⟩ := d.def_ 39 (d := ⟨("_law_cond", none), "_law_cond", "_law_cond", defArgs s__law_cond, defBody s__law_cond, defScope s__law_cond, [], []⟩) rfl
      exact ⟨_, fd, q, glo (d.fact 39 (f := .glo "_law_cond") rfl)⟩
    c_ALPHABET := st (d.fact 62 (f := .str "ALPHABET" (S [10, 32, 33, 34, 35, 36, 38, 39, 40, 41, 42, 43, 44, 45, 46, 47, 48, 49, 50, 51, 52, 53, 54, 55, 56, 57, 58, 59, 60, 61, 62, 63, 64, 65, 66, 67, 68, 69, 70, 71, 72, 73, 74, 75, 76, 77, 78, 79, 80, 81, 82, 83, 84, 85, 86, 87, 88, 89, 90, 91, 92, 93, 94, 95, 96, 97, 98, 99, 100, 101, 102, 103, 104, 105, 106, 107, 108, 109, 110, 111, 112, 113, 114, 115, 116, 117, 118, 119, 120, 121, 122, 123, 124, 125, 126])) rfl)
    c_HIGHEST := it (d.fact 63 (f := .int "HIGHEST" 9223372036854775807) rfl)
    c_NULL_MARK := it (d.fact 64 (f := .int "NULL_MARK" 1) rfl)
    c_INT_MARK := it (d.fact 65 (f := .int "INT_MARK" 2) rfl)
    c_TEXT_MARK := it (d.fact 66 (f := .int "TEXT_MARK" 3) rfl)
    c_TEXT_END := it (d.fact 67 (f := .int "TEXT_END" 1) rfl)
    c_FIRST_SIGN := it (d.fact 68 (f := .int "FIRST_SIGN" 2) rfl)
    c_INT_BYTES := it (d.fact 69 (f := .int "INT_BYTES" 8) rfl)
    c_EQUAL_PART := it (d.fact 70 (f := .int "EQUAL_PART" 10) rfl)
    c_OTHER_PART := it (d.fact 71 (f := .int "OTHER_PART" 3) rfl)
    c_LOW_SIGNS := ⟨_, glo (d.facts (f := .glo "LOW_SIGNS") (by repeat (first | exact List.mem_cons_self | apply List.mem_cons_of_mem))), rfl⟩
    c_HIGH_SIGNS := ⟨_, glo (d.facts (f := .glo "HIGH_SIGNS") (by repeat (first | exact List.mem_cons_self | apply List.mem_cons_of_mem))), rfl⟩
    c_VALUES := ⟨_, glo (d.facts (f := .glo "VALUES") (by repeat (first | exact List.mem_cons_self | apply List.mem_cons_of_mem))), rfl⟩
    c_INPUT_PLACES := ⟨_, glo (d.facts (f := .glo "INPUT_PLACES") (by repeat (first | exact List.mem_cons_self | apply List.mem_cons_of_mem))), rfl⟩
    c_PART_PLACES := ⟨_, glo (d.facts (f := .glo "PART_PLACES") (by repeat (first | exact List.mem_cons_self | apply List.mem_cons_of_mem))), rfl⟩
    c_QUERY_PLACES := ⟨_, glo (d.facts (f := .glo "QUERY_PLACES") (by repeat (first | exact List.mem_cons_self | apply List.mem_cons_of_mem))), rfl⟩
    c_TURNED := ⟨_, glo (d.facts (f := .glo "TURNED") (by repeat (first | exact List.mem_cons_self | apply List.mem_cons_of_mem))), rfl⟩
    lo_t := fun H => tupB_ok (He.ba (He.ba hx0).2).1 H
    hi_t := fun H => tupB_ok (He.ba (He.ba hx0).2).2 H
    em_t := fun H => tupB_ok (He.ba hx0).1 H
  }
end K24
end

section
-- part K24XK
set_option Elab.async false
set_option linter.all false
set_option maxRecDepth 100000
set_option maxHeartbeats 2000000
namespace K24
open PySem PySem.Spec PyProof.Rows L2 Fw LamX Dc Gk M24 M5
theorem law_at {w : World} {h : Heap} {K : PySem.W.Frag} {mg : Str → Option Value} {fa : Addr} (X : K.In h) (G : h.Ns mainGlobals mg) (hfa : mg ("law" : Str) = some (.ref fa)) (c : He.SaysX faD fnD [((fun K => He.ga K "VALUES"), [("null" : Str) , ("int" : Str) , ("text" : Str) , ("truth" : Str) , ("field" : Str) , ("op" : Str) , ("neg" : Str) , ("cmp" : Str) , ("and" : Str) , ("or" : Str) , ("not" : Str) , ("isnull" : Str) , ("in" : Str) , ("inquery" : Str) , ("between" : Str) , ("like" : Str) , ("case" : Str) , ("exists" : Str) , ("scalar" : Str)]), ((fun K => He.ga K "INPUT_PLACES"), [("unit" : Str) , ("scan" : Str) , ("filter" : Str) , ("project" : Str) , ("join" : Str) , ("group" : Str) , ("distinct" : Str) , ("union" : Str) , ("except" : Str) , ("intersect" : Str) , ("sort" : Str) , ("limit" : Str)]), ((fun K => He.ga K "PART_PLACES"), [("field" : Str) , ("truth" : Str) , ("null" : Str) , ("int" : Str) , ("text" : Str) , ("exists" : Str) , ("scalar" : Str) , ("neg" : Str) , ("not" : Str) , ("isnull" : Str) , ("inquery" : Str) , ("op" : Str) , ("cmp" : Str) , ("and" : Str) , ("or" : Str) , ("like" : Str) , ("between" : Str)]), ((fun K => He.ga K "QUERY_PLACES"), [("exists" : Str) , ("scalar" : Str) , ("inquery" : Str)]), ((fun K => He.ga K "TURNED"), [("=" : Str) , ("<" : Str) , ("<=" : Str) , (">" : Str) , (">=" : Str)])] tfD exD w h K) :
    LawAtS PySem.Challenge.rw_tablestack_k24_what_conditions_ask_of_ke w K (L2.CX (PySem.Challenge.rw_tablestack_k24_what_conditions_ask_of_ke).prog w) 16 63 "script" mg fa h := by
  have W := facts X G c
  have d := c.t.d
  obtain ⟨fd, F⟩ := d.defs (d := ⟨("law", none), "law", "law", defArgs s_law, defBody s_law, defScope s_law, [], []⟩) (by repeat (first | exact List.mem_cons_self | apply List.mem_cons_of_mem))
  have e := hfa.symm.trans (He.glo_ok X G (d.facts (f := .glo "law") (by repeat (first | exact List.mem_cons_self | apply List.mem_cons_of_mem))))
  cases e
  have b := FunD.bindsA (ps := ["script"]) F fun _ _ _ _ _ _ us hl => match us, hl with | [_], _ => rfl
  refine ⟨fd, tfD.map (He.cT K), spLaw K , ?_, ?_, ?_, fun s v => b s [v] rfl, fun H a ns hl _ hH hS => ?_, fun base hK hm hT => ?_⟩
  · intro p hp
    obtain ⟨q, hq, rfl⟩ := List.mem_map.mp hp
    exact c.empty q hq
  · intro p hp
    obtain ⟨q, hq, rfl⟩ := List.mem_map.mp hp
    exact c.out q hq
  · intro p hp
    obtain ⟨q, hq, rfl⟩ := List.mem_map.mp hp
    exact PySem.W.codeHd_of_K X (c.hd q hq)
  · exact ⟨a, ns, rfl, hS, hl, fun _ => rfl⟩

  · skip
    have hx := c.more
    unfold exD at hx
    obtain ⟨hx0, hx⟩ := He.ba hx
    obtain ⟨hx1, hx⟩ := He.ba hx
    obtain ⟨hx2, hx⟩ := He.ba hx
    obtain ⟨hx3, hx⟩ := He.ba hx
    obtain ⟨hx4, hx⟩ := He.ba hx
    have hx5 := hx
    have D : Wk K w mg (adK K) := wk_of (c.t.tab 0) (c.t.tab 1) (c.t.tab 2) (c.t.tab 3) (c.t.tab 4) hx1 hx2 hx3 hx4 hx5 (He.glo_ok X G (d.facts (f := .glo "null_value") (by repeat (first | exact List.mem_cons_self | apply List.mem_cons_of_mem)))) (He.glo_ok X G (d.facts (f := .glo "known_value") (by repeat (first | exact List.mem_cons_self | apply List.mem_cons_of_mem)))) (He.glo_ok X G (d.facts (f := .glo "field_value") (by repeat (first | exact List.mem_cons_self | apply List.mem_cons_of_mem)))) (He.glo_ok X G (d.facts (f := .glo "comparison_truth") (by repeat (first | exact List.mem_cons_self | apply List.mem_cons_of_mem)))) (He.glo_ok X G (d.facts (f := .glo "and_truth") (by repeat (first | exact List.mem_cons_self | apply List.mem_cons_of_mem)))) (He.glo_ok X G (d.facts (f := .glo "isnull_truth") (by repeat (first | exact List.mem_cons_self | apply List.mem_cons_of_mem))))
    have roll := ok__law_roll (P := (PySem.Challenge.rw_tablestack_k24_what_conditions_ask_of_ke).prog) (w := w) (base := base) W.toWl
    have dice := ok__law_dice (P := (PySem.Challenge.rw_tablestack_k24_what_conditions_ask_of_ke).prog) (w := w) (base := base) W.toWl
    have rounds := ok__law_rounds W.toWl dice
    have kof := ok_kind_of (P := (PySem.Challenge.rw_tablestack_k24_what_conditions_ask_of_ke).prog) (w := w) (base := base) W
    have sk := ok_same_kind W kof
    have cmp := ok_compare W sk
    have bo := ok_both (P := (PySem.Challenge.rw_tablestack_k24_what_conditions_ask_of_ke).prog) (w := w) (base := base) W
    have ng := ok_negated (P := (PySem.Challenge.rw_tablestack_k24_what_conditions_ask_of_ke).prog) (w := w) (base := base) W
    have as := ok_asked W ng
    have nv := ok_null_value (P := (PySem.Challenge.rw_tablestack_k24_what_conditions_ask_of_ke).prog) (w := w) (base := base) W
    have kv := ok_known_value (P := (PySem.Challenge.rw_tablestack_k24_what_conditions_ask_of_ke).prog) (w := w) (base := base) W
    have fv := ok_field_value (P := (PySem.Challenge.rw_tablestack_k24_what_conditions_ask_of_ke).prog) (w := w) (base := base) W
    have vo := ok_value W D nv kv fv cmp bo as 4
    have ev1 := ok_Ev1 (P := (PySem.Challenge.rw_tablestack_k24_what_conditions_ask_of_ke).prog) (w := w) (base := base) W
    have ev2 := ok_Ev2 (P := (PySem.Challenge.rw_tablestack_k24_what_conditions_ask_of_ke).prog) (w := w) (base := base) W
    have wi := ok_within W ev2
    have sn := ok_sign_number (P := (PySem.Challenge.rw_tablestack_k24_what_conditions_ask_of_ke).prog) (w := w) (base := base) W
    have fx := ok_fixed (P := (PySem.Challenge.rw_tablestack_k24_what_conditions_ask_of_ke).prog) (w := w) (base := base) W
    have kvl := ok_key_of_value W sn fx
    have ko := ok_key_of W kvl
    have uk := ok_upper_key (P := (PySem.Challenge.rw_tablestack_k24_what_conditions_ask_of_ke).prog) (w := w) (base := base) W
    have pp := ok_part_places (P := (PySem.Challenge.rw_tablestack_k24_what_conditions_ask_of_ke).prog) (w := w) (base := base) W D
    have op := ok_own_plans (P := (PySem.Challenge.rw_tablestack_k24_what_conditions_ask_of_ke).prog) (w := w) (base := base) W D
    have bp := ok_bound_parts W pp
    have rd := ok_reads W bp op
    have fi := ok_fields_in W rd
    have io := ok_is_own (P := (PySem.Challenge.rw_tablestack_k24_what_conditions_ask_of_ke).prog) (w := w) (base := base) W
    have bc := ok_bound_conjuncts (P := (PySem.Challenge.rw_tablestack_k24_what_conditions_ask_of_ke).prog) (w := w) (base := base) W
    have sd := ok_sided W D io fi
    have bn := ok_Bounds (P := (PySem.Challenge.rw_tablestack_k24_what_conditions_ask_of_ke).prog) (w := w) (base := base) W
    have shw := ok_shown (P := (PySem.Challenge.rw_tablestack_k24_what_conditions_ask_of_ke).prog) (w := w) (base := base) W
    have opn' := ok_is_open (P := (PySem.Challenge.rw_tablestack_k24_what_conditions_ask_of_ke).prog) (w := w) (base := base) W
    have fb := ok_first_bound (P := (PySem.Challenge.rw_tablestack_k24_what_conditions_ask_of_ke).prog) (w := w) (base := base) W
    have ask := ok_asked_of W bc sd fb bn
    have kr := ok_key_range 4 W (by decide) wi vo kvl uk
    have sel := ok_selectivity (P := (PySem.Challenge.rw_tablestack_k24_what_conditions_ask_of_ke).prog) (w := w) (base := base) W
    have pl := ok_part_left (P := (PySem.Challenge.rw_tablestack_k24_what_conditions_ask_of_ke).prog) (w := w) (base := base) W
    have epr := ok_expected_pairs W bc pl
    have ip := ok_input_place (P := (PySem.Challenge.rw_tablestack_k24_what_conditions_ask_of_ke).prog) (w := w) (base := base) W D
    have inp := ok_inputs W ip
    have e0 := ok_e0 W inp bc pl epr (ok_eNo W)
    have e1 := ok_e1 W D inp bc pl epr e0
    have lv := ok__law_value W roll
    have ll := ok__law_literal (P := (PySem.Challenge.rw_tablestack_k24_what_conditions_ask_of_ke).prog) (w := w) (base := base) W
    have lc := ok__law_cond W roll lv ll
    exact ok_law W F rounds roll lv lc bc (sided2 sd) ask (kr2 kr) ko ev1 wi vo bn opn' shw sel e1
end K24
open PySem PySem.W PySem.Calls PyProof.Rows
theorem PySem.Challenge.cw_tablestack_k24_what_conditions_ask_of_ke_holds : PySem.Challenge.rw_tablestack_k24_what_conditions_ask_of_ke.Holds := by
  w_on; o_law
  refine HandSHeadRun.head_any (r := OpenLaw.row PySem.Challenge.rw_tablestack_k24_what_conditions_ask_of_ke) (q := view (OpenLaw.row PySem.Challenge.rw_tablestack_k24_what_conditions_ask_of_ke).prog [123]) (H := K24.hk0) (ob := K24.ob0) (M := 12000) (loose := K24.loose0) (d := HandSHeadRun.topDef (OpenLaw.row PySem.Challenge.rw_tablestack_k24_what_conditions_ask_of_ke).prog 123) (kwd := []) K24.ob0_eq
    (by kernel_rfl) (fun s => by kernel_rfl) K24.run0 (by kernel_rfl) (by kernel_rfl) (by kernel_rfl) (by rfl) (by first | assumption | decide +kernel) (by decide +kernel) ⟨rfl, rfl, rfl, rfl, rfl, by decide +kernel⟩ ?hw ?hc
  case hw => w_witness2
  case hc =>
    refine LamX.walk_ofTsE (l := PySem.Challenge.rw_tablestack_k24_what_conditions_ask_of_ke) (n := 63) (k := 16) (x := "script") (CX := fun w => L2.CX (PySem.Challenge.rw_tablestack_k24_what_conditions_ask_of_ke).prog w) rfl (by decide) (by kernel_rfl) ⟨rfl, by decide, by decide⟩ ?F (fun _ _ _ _ _ z => by
      obtain ⟨_, _, _, _, _, _, _, _, _, _, _, _, z⟩ := z
      exact z)
    intro w mg fa h Y G hmg0
    obtain ⟨K, KX, c⟩ := Y
    have hmg : mg ("law" : PySem.Str) = some (.ref fa) := by
      have e : (HandSHeadRun.topDef (OpenLaw.row PySem.Challenge.rw_tablestack_k24_what_conditions_ask_of_ke).prog 123).name = ("law" : PySem.Str) := by kernel_rfl
      rw [← e]
      exact hmg0
    exact ⟨K, KX, K24.law_at KX G hmg c⟩
end
