import PyProof.Rows.All
import Wide.All
import OpenK.AllK
import Wide.FinOn
import PyProof.ReprRoads
import HandS.Base
import HandS.Call
import HandS.List
import HandS.Comp
import HandS.Ends
import HandS.Words
import HandS.TupAny
import HandS.Zip
import HandS.ForMost
import HandS.Wide
import HandS.IsInst
import HandS.Dict
import HandS.Codes
import HandS.Text
import HandS.Style
import HandS.TryOnly
import HandS.FStr
import HandS.StrMore
import HandS.Deep
import KE.DatumMoreOrd
import HandS.TupLe
import HandS.SlotsOwn
import HandS.More
import HandS.TupMul
import HandS.RaiseMore
import KE.GoesMore
import KE.GoesEnum
import HandS.ForExc
import HandS.ExcField
import HandS.ExcInit
import KE.KExcIs
import HandS.ExcIs
import HandS.HeadHook3
import PyProof.InstNe
import HandS.CallLocal
import HandS.DictComp
import HandS.WrittenGet
import OpenK.KMore
import PyProof.Rows.SortStr
import HandS.Head0
import HandS.Head1
import HandS.Head2
import HandS.HeadHook1
import HandS.HeadHook2
import HandS.HeadHook4
import HandS.TryMany
import HandS.Small
import HandS.Sort
import PyProof.ListRange
import KE.KDictPairs
import HandS.Strs
import KE.KRevSl
import KE.KCallOwn
import PyProof.ReprBulk
import PySem.Challenge.RW_widerkeys_k10_worlds_told_and_compared
set_option Elab.async false
set_option linter.all false
set_option maxRecDepth 100000
set_option maxHeartbeats 8000000
namespace Zg
open PySem PySem.Spec PyProof.Rows L2
def CPowZ (i j : Int) : Prop := 0 ≤ j ∧ (Builtin.Int.intBits i : Int) * j ≤ 2 ^ 27
theorem op_powZ {X : Cx} : OpR X (binaryOp .Pow) (rI CPowZ fun i j => .int (i ^ j.toNat)) :=
  opI fun _ _ _ _ _ _ _ hc q => pow_int hc.1 hc.2 q
/-- no repr runs around -/
def Calm (A : Around) : Prop := A.guards = some []
theorem Calm.deeper {A : Around} {env : Env} (h : Calm A) : Calm (A.deeper env) := h
/-- repr(x), x data at any depth -/
def rReprD (K : PySem.W.Frag) : List V → Hp → VK → Prop := fun xs H Q =>
  ∃ (x : V) (d : PyData), xs = [x] ∧ Dp K H x d ∧ d.showable = true ∧ d.hasDict = false ∧
    d.depth ≤ 64 ∧ d.shown.length ≤ sizeLine ∧ (∀ i, x = .int i → i.natAbs.log2 < 1920) ∧ Q (.str d.shown) H
theorem call_reprD {X : Cx} (hg : Calm X.A) (hu : X.A.units + 70 < cLine) : CallR X (.builtin "repr") (rReprD X.K) := by
  intro pins s σ H xs us Q I r h
  obtain ⟨x, d, rfl, hd, hs, hn, hdep, hsz, hi, q⟩ := h
  obtain ⟨u, rfl, rx⟩ := vals1 r
  obtain ⟨as, rd⟩ := Dp.reads I d x u hd rx
  have nod : d.hasDict = true → sysModules ∉ as := fun z => by rw [hn] at z; cases z
  cases hd with
  | non =>
    cases rx
    exact PySem.P.repr_of_none ⟨.str _, H, I.tok _, ⟨_, rfl⟩, q⟩
  | bl b =>
    cases rx
    refine PySem.P.repr_of_bool ⟨.str _, H, I.tok _, ⟨_, rfl⟩, ?_⟩
    cases b <;> exact q
  | int i =>
    obtain ⟨t, rfl⟩ := rx
    exact PySem.P.repr_of_int (hi i rfl) ⟨.str _, H, I.tok _, ⟨_, rfl⟩, q⟩
  | str z =>
    obtain ⟨t, rfl⟩ := rx
    exact PySem.P.repr_of_str ⟨.str _, H, I.tok _, ⟨_, rfl⟩, q⟩ hsz
  | lst h1 h2 =>
    cases rx
    refine repr_of_reads' rd hs nod hg (by omega) (fun _ _ e => e) (fun h' u tk hk => ?_) hsz
    exact ⟨.str _, H, I.kept (t' := tk) hk, ⟨_, rfl⟩, q⟩
  | tup h1 h2 =>
    cases rx
    refine repr_of_reads' rd hs nod hg (by omega) (fun _ _ e => e) (fun h' u tk hk => ?_) hsz
    exact ⟨.str _, H, I.kept (t' := tk) hk, ⟨_, rfl⟩, q⟩
section
variable {P : Program} {w : World} {K : PySem.W.Frag} {mg : Str → Option Value} {base : Heap} {CX : CXT} {k : Nat} {f : Addr} {fd : FuncData} {ps : List Str} {sp : Sp}
/-- a def keeps its promise wherever it is called with no repr around -/
structure FnG (P : Program) (w : World) (K : PySem.W.Frag) (mg : Str → Option Value) (base : Heap) (CX : CXT)
    (k : Nat) (f : Addr) (fd : FuncData) (ps : List Str) (sp : Sp) : Prop where
  many : ∀ vs H Q E, sp vs H Q E → vs.length = ps.length
  goes : ∀ (A : Around), Calm A → ∀ (fr : List Env) (s : Shared) (H : Hp) (args : Args) (us : List Value) (vs : List V) (Q : VK) (E : XK),
    Room k A → Env0 P w K mg base A fr s H → BindsTo s fd args (ps.zip us) → Vals vs us → sp vs H Q E →
      codeAny (model P w) A (.call (.ref f) args) (CR CX fr P w H s Q E) s
theorem FnG.of (F : FnOk P w K mg base CX k f fd ps sp) : FnG P w K mg base CX k f fd ps sp :=
  ⟨F.len, fun A _ fr s H args us vs Q E r e b v h => F.run A fr s H args us vs Q E r e b v h⟩
theorem FnG.up {j : Nat} (F : FnG P w K mg base CX j f fd ps sp) (h : j ≤ k) : FnG P w K mg base CX k f fd ps sp :=
  ⟨F.many, fun A c fr s H args us vs Q E r => F.goes A c fr s H args us vs Q E (r.mono h)⟩
/-- a def of the text, by its body, with no repr around -/
theorem Fun_okG {x qual : Str} {st : Stmt} {N : List Str} (F : Fun K x qual st f fd) (S : FnScope N ps (defScope st)) (len : ∀ vs H Q E, sp vs H Q E → vs.length = ps.length)
    (hbody : ∀ (cd : Value) (A : Around) (fr : List Env) (s : Shared) (H : Hp) (vs : List V) (Q : VK) (E : XK), Calm A →
      Room k (A.deeper (envOfC qual (defScope st) s.heap.objs.size f cd)) → sp vs H Q E →
        ∃ t, PSs (cxOf CX P w K mg base N qual (defScope st) f cd A fr s H E).nox (defBody st) t ∧ t { nx := fun _ H' => Q .non H', rt := Q } (start N vs) H) :
    FnG P w K mg base CX (k + 1) f fd ps sp := by
  obtain ⟨oc, od, kw, doc, pm, an, cd, ct, osl, rfl, at_f, hcd⟩ := F.ex
  constructor
  · exact len
  intro A calm fr s H args us vs Q E room e0 binds rel hsp
  have hlen := len _ _ _ _ hsp
  have stays : ∀ b o, base.get? b = some o → s.heap.get? b = some o := fun b o e => (e0.bs b o e).1
  refine codeAny_call_function room.depth (e0.mod.kin.keeps stays _ _ at_f) rfl S.co S.gen rfl (PySem.W.codeRec_of (e0.mod.kin.keeps stays) hcd) (binds _ _ _ _ ?_)
  refine wpAny_newFunctionEnv_cells S.kind (fun ⟨n, v⟩ hy => ?_) fun env he s1 inC => ?_
  · cases S.par n (List.of_mem_zip hy).1 with
    | inl z => exact .inl z
    | inr z => exact .inr ⟨z, PySem.W.cellsFrom_some _ _ _ (.inl z)⟩
  subst he
  refine ⟨(e0.mod.nolimit.keeps stays).keeps inC.toInCall.keep, codeAny_func ?_⟩
  obtain ⟨t, ht, hq⟩ := hbody cd A fr s H vs Q E calm (room.deeper _) hsp
  refine wpAny_mono (ht.nox.run [] s1 (start N vs) H _ (inv_start (CX := CX) S room.hd e0 hlen rel inC) hq) (fun fl s' z => ?_) fun _ _ z => z
  match fl, z with
  | .ret _, ⟨v, _, H', J, rv, q⟩ => exact ⟨v, H', J.os, J.bare, J.base, J.hok, rv, q⟩
  | .next, ⟨_, H', J, q⟩ => exact ⟨.non, H', J.os, J.bare, J.base, J.hok, rfl, q⟩
  | .brk, ⟨_, _, _, q⟩ => exact q.elim
  | .cont, ⟨_, _, _, q⟩ => exact q.elim
end
section
variable {X : Cx} {CX : CXT} {k : Nat} {f : Addr} {fd : FuncData} {ps : List Str} {sp : Sp} {E : XK} {x : Str} {p pos : Pos} {e : Expr} {es : List Expr} {t : TA}
/-- f(e, ..) where no repr runs -/
theorem pe_callG (c : Calm X.A) (F : FnG X.prog X.w X.K X.mg X.base CX k f fd ps sp) (hr : Room k X.A) (hg : Gl X x) (hm : X.mg x = some (.ref f)) (hk : PySem.W.keepIn X.K (.ref f) = true)
    (hb : Binds X.K fd ps []) (hx : Passes CX X E) (ha : PA X (e :: es) t) (hdb : (x == ("__debug__" : Str)) = false := by decide)
    (he : starEach (e :: es) X.env = (false, eval e X.env) :: starEach es X.env := by rfl) (hpl : (backTo pos (starEach es X.env)).any (·.1) = false := by rfl) :
    PE X (.Call (.Name x p) (e :: es) [] pos) (tCall sp [] E t) := by
  constructor
  intro pins s σ H Q I h
  refine wpAny_Call_Name_kw (ld_glob I hg hm (PySem.W.callWith_K (h₀ := X.base) I.ok.mod.kin hk (thn (ha.run pos pins s σ H _ I h) fun us s1 z => ?_) he hpl) hdb)
  obtain ⟨vs, H1, J, rel, q⟩ := z
  have q' : sp vs H1 Q E := by rw [← List.append_nil vs]; exact q
  have hl : (us ++ []).length = ps.length := by rw [List.append_nil, ← rel.length]; exact F.many _ _ _ _ q'
  have b := hb s1 us J.kIn hl
  rw [List.append_nil] at b
  refine ⟨J.kIn, wpAny_call (codeAny_mono (F.goes X.A c X.stack s1 H1 ⟨us, []⟩ us vs Q E hr J.env0 b rel q') fun r s2 z => ?_)⟩
  match r, z with
  | .error _, z => exact hx pins σ H1 s1 _ s2 J z
  | .ok (.ret _), z => exact J.after z
  | .ok .next, z => exact z.elim
  | .ok .brk, z => exact z.elim
  | .ok .cont, z => exact z.elim
end
/-- the script alone is tracked, or nothing -/
def track (a : Addr) (o : HO) : Hp := fun b => if b = a then some o else none
theorem track_at {a : Addr} {o : HO} : track a o a = some o := if_pos rfl
theorem track_off {a b : Addr} {o : HO} (h : b ≠ a) : track a o b = none := if_neg h
theorem lawG {P : Program} {w : World} {K : PySem.W.Frag} {mg mb : Str → Option Value} {k : Nat} {fa a : Addr} {fd : FuncData} {x : Str} {sp : Sp} {s : Shared} {us : List Value} {ns : List Int}
    (kin : K.In s.heap) (gl : s.heap.Ns mainGlobals mg) (bl : s.heap.Ns builtinsNs mb) (bb : ∀ x : Str, x ≠ "__name__" → mb x = bootBuiltins x) (lim : s.heap.NoLimit) (gens : s.gens = #[])
    (ha : s.heap.get? a = some { cls := .type "list", data := .seq us.toArray }) (whole : IntsAre us ns) (line : ns.length ≤ sizeLine) (room : Room k callerA)
    (F : ∀ base : Heap, K.In base → base.Ns mainGlobals mg → FnG P w K mg base CX0 k fa fd [x] sp)
    (bind : ∀ (s : Shared) (u : Value), BindsTo s fd ⟨[u], []⟩ [(x, u)])
    (hsp : ∀ H : Hp, SqL K H a (ns.map V.int) → sp [.ref a] H (fun v _ => v = .bl true) fun _ _ _ => False) :
    codeAny (model P w) callerA (.call (.ref fa) ⟨[.ref a], []⟩) (fun r s' => r = .ok (.ret (.bool true)) ∧ OldK s.heap s'.heap ∧ s'.os = s.os ∧ AllBare s'.gens) s := by
  have rel := vals_ints whole
  have size := whole.length
  -- H: the script, or nothing; what H does not track is in the base
  have go : ∀ H : Hp, SqL K H a (ns.map V.int) → HOk P w H s.heap → (∀ b u, H b = some u → b = a ∧ K.lookup a = none ∧ ∃ o xs, u = .frz o (.lst xs)) →
      codeAny (model P w) callerA (.call (.ref fa) ⟨[.ref a], []⟩) (fun r s' => r = .ok (.ret (.bool true)) ∧ OldK s.heap s'.heap ∧ s'.os = s.os ∧ AllBare s'.gens) s := by
    intro H hS hok only
    have free : ∀ {b : Addr}, b ≠ a → H b = none := fun {b} hb => by
      cases q : H b with
      | none => rfl
      | some u => exact absurd (only b u q).1 hb
    have notDict : ∀ {b : Addr} {o : Obj} {es : Array DictEntry} {n : Nat}, s.heap.get? b = some o → o.data = .dict es n → b ≠ a := fun {b o es n} e d z => by
      subst z
      rw [ha] at e
      have e' := Option.some.inj e
      subst e'
      cases d
    have keepNs : ∀ {b : Addr} {m : Str → Option Value}, s.heap.Ns b m → (hidT s.heap H).Ns b m := fun {b m} z => by
      obtain ⟨o, es, n, e, d, r⟩ := z
      exact ⟨o, es, n, hidT_get e (free (notDict e d)), d, r⟩
    have kinB : K.In (hidT s.heap H) := fun b o e => hidT_get (kin b o e) (by
      cases q : H b with
      | none => rfl
      | some u =>
        obtain ⟨z, no, _⟩ := only b u q
        rw [z, no] at e
        cases e)
    have limB : (hidT s.heap H).NoLimit := by
      obtain ⟨m, h1, h2⟩ := lim
      exact ⟨m, keepNs h1, h2⟩
    have e0 : Env0 P w K mg (hidT s.heap H) callerA [] s H :=
      { frames := rfl, mod := ⟨kinB, keepNs gl, ⟨mb, keepNs bl, bb⟩, limB⟩, bs := fun b o e => of_hidT e, bsz := Nat.le_of_eq (hidT_size _ _), funs := trivial,
        frf := fun b hb => (List.not_mem_nil (show b ∈ ([] : List Addr) from hb)).elim, hok := hok, bare := .of_eq gens }
    refine codeAny_mono ((F _ kinB (keepNs gl)).goes callerA rfl [] s H ⟨[.ref a], []⟩ [.ref a] [.ref a] _ _ room e0 (bind s (.ref a)) (.cons rfl .nil) (hsp H hS)) fun r s' z => ?_
    match r, z with
    | .error _, z => exact False.elim z
    | .ok .next, z => exact False.elim z
    | .ok .brk, z => exact False.elim z
    | .ok .cont, z => exact False.elim z
    | .ok (.ret u), z =>
      obtain ⟨v, H', os, bare, un, hok', rv, q⟩ := z
      have q' : v = .bl true := q
      subst q'
      obtain rfl : u = Value.bool true := rv
      refine ⟨rfl, OldK.of_keep fun b o e => ?_, os, bare⟩
      cases q : H b with
      | none => exact un.keep b o e q (List.not_mem_nil) (List.not_mem_nil)
      | some u =>
        obtain ⟨_, _, ob, xs, eu⟩ := only b u q
        subst eu
        have h1 := (hok b _ q).1
        have h2 := (hok' b _ (un.frzs b ob _ q)).1
        rw [e] at h1
        rw [h2, ← Option.some.inj h1]
  cases hk : K.lookup a with
  | none =>
    refine go (track a (.frz { cls := .type "list", data := .seq us.toArray } (.lst (ns.map V.int)))) (.inl (.inr ⟨_, track_at⟩)) (fun b u z => ?_) fun b u z => ?_
    · by_cases hb : b = a
      · subst hb
        have z' := track_at.symm.trans z
        cases z'
        exact ⟨ha, by rw [List.length_map]; exact line, us, _, rel, ha⟩
      · rw [track_off hb] at z
        cases z
    · by_cases hb : b = a
      · subst hb
        have z' := track_at.symm.trans z
        cases z'
        exact ⟨rfl, hk, _, _, rfl⟩
      · rw [track_off hb] at z
        cases z
  | some o =>
    have e := kin a o hk
    rw [ha] at e
    have e' := Option.some.inj e
    subst e'
    have small : us.toArray.size ≤ sizeLine := by rw [List.size_toArray, size]; exact line
    refine go (fun _ => none) (.inr ⟨_, us.toArray, _, hk, rfl, rfl, rfl, small, by simpa using rel⟩) (fun b u z => ?_) fun b u z => ?_
    · have z' : (none : Option HO) = some u := z
      cases z'
    · have z' : (none : Option HO) = some u := z
      cases z'
end Zg
namespace Zd
open PySem PySem.Spec PyProof.Rows L2
/-- a tuple as an object that is known -/
def PlT (H : Hp) (a : Addr) (vs : List V) : Prop := ∃ o : Obj, H a = some (.frz o (.tup vs)) ∧ o.dict = none
/-- a tuple of the module -/
def TupC (K : PySem.W.Frag) (a : Addr) (vs : List V) : Prop := ∃ (o : Obj) (its : Array Value) (n : Nat), K.lookup a = some o ∧ o.cls = .type "tuple" ∧ o.dict = none ∧ o.data = .seq its n ∧ its.size ≤ sizeLine ∧ Vals vs its.toList
theorem TupC.sq {K : PySem.W.Frag} {a : Addr} {vs : List V} (h : TupC K a vs) (H : Hp) : SqT K H a vs := by
  obtain ⟨o, its, n, h1, h2, _, h3⟩ := h
  exact .inr ⟨o, its, n, h1, h2, h3⟩
/-- the answer is a new tuple -/
def NewT (xs : List V) (H : Hp) (Q : VK) : Prop := ∀ (a : Addr) (o : Obj), H a = none → o.dict = none → Q (.ref a) (upd H a (.frz o (.tup xs)))
section
variable {X : Cx}
theorem lay_tup {pins : List (Addr × Obj)} {σ : L2.St} {H : Hp} {s : Shared} {xs : List V} {its : List Value} {Q : VK} (I : Inv X pins σ H s) (r : Vals xs its) (z : xs.length ≤ sizeLine) (q : NewT xs H Q) :
    EP X pins σ Q (.ref s.heap.objs.size) { s with heap := s.heap.push { cls := .type "tuple", data := .seq its.toArray } } := by
  have g := Heap.get?_push_size s.heap (o := { cls := .type "tuple", data := .seq its.toArray }) rfl
  exact ⟨.ref s.heap.objs.size, _, I.laid (t' := s.toks) (o := .frz { cls := .type "tuple", data := .seq its.toArray } (.tup xs)) (fun b u e => Heap.get?_push_of_some _ e) (Nat.le_refl _) ⟨g, z, its, r, ⟨_, g, rfl, _, rfl⟩⟩, rfl, q _ _ (I.hok.fresh (Nat.le_refl _)) rfl⟩
def tTup (t : TA) : TE := fun σ H Q => t σ H fun xs H1 => xs.length ≤ sizeLine ∧ NewT xs H1 Q
theorem pe_tup {es : List Expr} {t : TA} {pos : Pos} {x1} (h : PA X es t) : PE X (.Tuple es x1 pos) (tTup t) :=
  ⟨fun pins s σ H Q I hq => wpAny_Tuple_spliced (thn (h.run pos pins s σ H _ I hq) fun us s1 ⟨xs, H1, I1, r, z, q⟩ => ⟨by rw [← r.length]; exact z, lay_tup I1 r z q⟩)⟩
theorem call_tuple_of : CallR X (.type "tuple") (fun xs H Q => ∃ p ys, xs = [.ref p] ∧ ((SqL X.K H p ys ∧ NewT ys H Q) ∨ (SqT X.K H p ys ∧ Q (.ref p) H))) := fun pins s σ H xs us Q I r h => by
  obtain ⟨p, ys, rfl, ⟨hq, q⟩ | ⟨hq, q⟩⟩ := h
  · obtain ⟨u, rfl, rx⟩ := vals1 r
    cases rx
    obtain ⟨its, r', pl, hz⟩ := I.list hq
    have hl := r'.length
    refine call_tuple_list pl.isList (fun h' kp => ?_) (by simp only [List.size_toArray] <;> omega)
    exact lay_tup (s := { s with heap := h' }) (I.kept (t' := s.toks) kp) r' hz q
  · exact L2.call_tuple_of pins s σ H _ us Q I r ⟨p, ys, rfl, .inr ⟨hq, q⟩⟩
def rCatA (K : PySem.W.Frag) : R2 := fun x y H Q => ∃ a b xs ys, x = .ref a ∧ y = .ref b ∧ SqT K H a xs ∧ SqT K H b ys ∧ xs.length + ys.length ≤ sizeLine ∧
  (xs = [] → Q (.ref b) H) ∧ (xs ≠ [] → ys = [] → Q (.ref a) H) ∧ (xs ≠ [] → ys ≠ [] → NewT (xs ++ ys) H Q)
theorem op_catA : OpR X (binaryOp .Add) (rCatA X.K) := fun pins s σ H x y v u Q I rx ry h => by
  obtain ⟨a, b, xs, ys, rfl, rfl, ha, hb, hz, q0, q1, q2⟩ := h
  by_cases hx : xs = []
  · exact L2.op_catA pins s σ H _ _ v u Q I rx ry ⟨a, b, xs, ys, rfl, rfl, ha, hb, hz, q0, q1, fun n => absurd hx n⟩
  · cases rx
    cases ry
    obtain ⟨i1, r1, p1, _⟩ := I.tuple ha
    obtain ⟨i2, r2, p2, _⟩ := I.tuple hb
    refine HT.cat_tup p1 p2 (fun z => hx (r1.nil_iff.mp z)) (fun z => ⟨.ref a, H, I, rfl, q1 hx (r2.nil_iff.mp z)⟩) (fun z => ?_) (by rw [← r1.length, ← r2.length]; exact hz)
    exact lay_tup I (r1.append r2) (by rw [List.length_append]; exact hz) (q2 hx fun w => z (r2.nil_iff.mpr w))
def rSlA (K : PySem.W.Frag) : V → Option Int → Option Int → Hp → VK → Prop := fun x lo hi H Q => ∃ a xs, x = .ref a ∧ SqT K H a xs ∧
  (HT.sIx xs.length 0 lo = 0 ∧ HT.sIx xs.length xs.length hi = xs.length → Q (.ref a) H) ∧ (¬ (HT.sIx xs.length 0 lo = 0 ∧ HT.sIx xs.length xs.length hi = xs.length) → NewT (cutV xs lo hi) H Q)
theorem sl_tupA : SlR X (rSlA X.K) := fun pins s σ H x v vl vu lo hi sl Q I rx hs pl pu h => by
  obtain ⟨a, xs, rfl, hx, q1, q2⟩ := h
  by_cases hw : HT.sIx xs.length 0 lo = 0 ∧ HT.sIx xs.length xs.length hi = xs.length
  · exact L2.sl_tupA pins s σ H _ v vl vu lo hi sl Q I rx hs pl pu ⟨a, xs, rfl, hx, q1, fun n => absurd hw n⟩
  · cases rx
    obtain ⟨its, r, ht, hz⟩ := I.tuple hx
    have hl : its.toArray.size = xs.length := by rw [List.size_toArray]; exact r.length.symm
    refine ⟨"tuple", _, PyProof.Rows.slot_tuple_getitem.lookup, ht.typeIs, ?_⟩
    refine HT.getItem_tuple_cut ht hs pl pu (by rw [hl]; exact hw) ?_ (by rw [hl]; exact hz)
    rw [hl]
    exact lay_tup I ((r.drop (HT.sIx xs.length 0 lo)).take (HT.sIx xs.length xs.length hi - HT.sIx xs.length 0 lo)) (Nat.le_trans (cutV_length xs lo hi) hz) (q2 hw)
end
end Zd
namespace Zd
open PySem PySem.Spec PyProof.Rows L2
inductive Dat where
  | non | bl (b : Bool) | int (i : Int) | str (x : Str)
  | tup (ds : List Dat) | lst (ds : List Dat)
  | dic (ks : List Key) (ds : List Dat)
  | obj (c : String) (fs : List Str) (ds : List Dat)
  | loc (n : Nat)
  | ty (n : String) | cls (c : String)
  | scr (ns : List Int)
/-- what is known of the places: the written part, the classes' addresses -/
structure Cz where
  K : PySem.W.Frag
  κ : String → Addr
/-- the places that may be written: shared ones by number, the frame's own ones -/
structure Pl where
  α : List Addr
  ω : List Addr
  γ : List Addr
def Pl.has (p : Pl) (a : Addr) : Prop := a ∈ p.α ∨ a ∈ p.ω ∨ a ∈ p.γ
def LstAt (Z : Cz) (H : Hp) (p : Pl) (a : Addr) (vs : List V) : Prop := H a = some (.lst vs) ∧ ¬ p.has a
def TupAt (Z : Cz) (H : Hp) (p : Pl) (a : Addr) (vs : List V) : Prop := (PlT H a vs ∧ ¬ p.has a) ∨ TupC Z.K a vs
def DicAt (H : Hp) (p : Pl) (a : Addr) (kvs : List (Key × V)) : Prop := H a = some (.dK kvs) ∧ ¬ p.has a
def ObjAt (H : Hp) (p : Pl) (a C : Addr) (fs : List (Str × V)) : Prop := (∃ dx, H a = some (.ins C dx fs)) ∧ ¬ p.has a
mutual
def IsD (Z : Cz) (H : Hp) (p : Pl) (v : V) : Dat → Prop
  | .non => v = .non
  | .bl b => v = .bl b
  | .int i => v = .int i
  | .str x => v = .str x
  | .ty n => v = .ty n
  | .cls c => v = .ref (Z.κ c)
  | .scr ns => ∃ a, v = .ref a ∧ ((Rd H a (.lst (ns.map V.int)) ∧ ¬ p.has a) ∨ ∀ H', SqL Z.K H' a (ns.map V.int))
  | .tup ds => ∃ a vs, v = .ref a ∧ TupAt Z H p a vs ∧ IsDs Z H p vs ds
  | .lst ds => ∃ a vs, v = .ref a ∧ LstAt Z H p a vs ∧ IsDs Z H p vs ds
  | .dic ks ds => ∃ a vs, v = .ref a ∧ DicAt H p a (ks.zip vs) ∧ ks.length = vs.length ∧ IsDs Z H p vs ds
  | .obj c fs ds => ∃ a vs, v = .ref a ∧ ObjAt H p a (Z.κ c) (fs.zip vs) ∧ fs.length = vs.length ∧ IsDs Z H p vs ds
  | .loc n => ∃ a, v = .ref a ∧ p.α[n]? = some a
def IsDs (Z : Cz) (H : Hp) (p : Pl) (vs : List V) : List Dat → Prop
  | [] => vs = []
  | d :: ds => ∃ v r, vs = v :: r ∧ IsD Z H p v d ∧ IsDs Z H p r ds
end
/-- a container whose top may be the frame's own, its items may not -/
def IsW (Z : Cz) (H : Hp) (p : Pl) (v : V) : Dat → Prop
  | .lst ds => ∃ a vs, v = .ref a ∧ (H a = some (.lst vs) ∧ a ∉ p.α ∧ a ∉ p.γ) ∧ IsDs Z H p vs ds
  | .dic ks ds => ∃ a vs, v = .ref a ∧ (H a = some (.dK (ks.zip vs)) ∧ a ∉ p.α ∧ a ∉ p.γ) ∧ ks.length = vs.length ∧ IsDs Z H p vs ds
  | .obj c fs ds => ∃ a vs, v = .ref a ∧ ((∃ dx, H a = some (.ins (Z.κ c) dx (fs.zip vs))) ∧ a ∉ p.α ∧ a ∉ p.γ) ∧ fs.length = vs.length ∧ IsDs Z H p vs ds
  | d => IsD Z H p v d
/-- from here to there: places come, what may not be written stays -/
structure Ext (H : Hp) (p : Pl) (H' : Hp) (p' : Pl) : Prop where
  α : ∃ β, p'.α = p.α ++ β ∧ ∀ b ∈ β, H b = none
  ω : ∃ β, p'.ω = p.ω ++ β ∧ ∀ b ∈ β, H b = none
  γ : p'.γ = p.γ
  k : ∀ a o, H a = some o → a ∉ p.α → a ∉ p.ω → H' a = some o
  t : ∀ a, H a ≠ none → H' a ≠ none
/-- the same of an expression: the own places stay, too -/
structure ExtE (H : Hp) (p : Pl) (H' : Hp) (p' : Pl) : Prop where
  α : ∃ β, p'.α = p.α ++ β ∧ ∀ b ∈ β, H b = none
  ω : p'.ω = p.ω
  γ : p'.γ = p.γ
  k : ∀ a o, H a = some o → a ∉ p.α → H' a = some o
  t : ∀ a, H a ≠ none → H' a ≠ none
theorem ExtE.s {H H' : Hp} {p p' : Pl} (e : ExtE H p H' p') : Ext H p H' p' := ⟨e.α, ⟨[], by rw [e.ω, List.append_nil], by simp⟩, e.γ, fun a o h n _ => e.k a o h n, e.t⟩
theorem ExtE.refl {H : Hp} {p : Pl} : ExtE H p H p := ⟨⟨[], by simp⟩, rfl, rfl, fun _ _ h _ => h, fun _ h => h⟩
theorem Ext.refl {H : Hp} {p : Pl} : Ext H p H p := ExtE.refl.s
theorem Ext.has {H H' : Hp} {p p' : Pl} (e : Ext H p H' p') {a : Addr} {o : HO} (h : H a = some o) (n : ¬ p.has a) : ¬ p'.has a := by
  obtain ⟨β, e1, f1⟩ := e.α
  obtain ⟨γ, e2, f2⟩ := e.ω
  rintro (q | q | q)
  · rw [e1] at q
    rcases List.mem_append.mp q with q | q
    · exact n (.inl q)
    · rw [f1 a q] at h; cases h
  · rw [e2] at q
    rcases List.mem_append.mp q with q | q
    · exact n (.inr (.inl q))
    · rw [f2 a q] at h; cases h
  · rw [e.γ] at q
    exact n (.inr (.inr q))
theorem back_of {H H1 : Hp} (t : ∀ a, H a ≠ none → H1 a ≠ none) {b : Addr} (q : H1 b = none) : H b = none := by
  cases z : H b with
  | none => rfl
  | some o => exact absurd q (t b (by rw [z]; exact nofun))
theorem fresh_app {H H1 : Hp} (t : ∀ a, H a ≠ none → H1 a ≠ none) {α α1 α2 : List Addr} (h : ∃ β, α1 = α ++ β ∧ ∀ b ∈ β, H b = none) (g : ∃ β, α2 = α1 ++ β ∧ ∀ b ∈ β, H1 b = none) : ∃ β, α2 = α ++ β ∧ ∀ b ∈ β, H b = none := by
  obtain ⟨β, e1, f1⟩ := h
  obtain ⟨γ, e2, f2⟩ := g
  refine ⟨β ++ γ, by rw [e2, e1, List.append_assoc], fun b q => ?_⟩
  rcases List.mem_append.mp q with q | q
  · exact f1 b q
  · exact back_of t (f2 b q)
theorem not_fresh {H : Hp} {α α1 : List Addr} (h : ∃ β, α1 = α ++ β ∧ ∀ b ∈ β, H b = none) {a : Addr} {o : HO} (e : H a = some o) (n : a ∉ α) : a ∉ α1 := by
  obtain ⟨β, e1, f1⟩ := h
  intro q
  rw [e1] at q
  rcases List.mem_append.mp q with q | q
  · exact n q
  · rw [f1 a q] at e; cases e
theorem Ext.trans {H H1 H2 : Hp} {p p1 p2 : Pl} (e : Ext H p H1 p1) (f : Ext H1 p1 H2 p2) : Ext H p H2 p2 :=
  ⟨fresh_app e.t e.α f.α, fresh_app e.t e.ω f.ω, f.γ.trans e.γ, fun a o h n m => f.k a o (e.k a o h n m) (not_fresh e.α h n) (not_fresh e.ω h m), fun a h => f.t a (e.t a h)⟩
theorem ExtE.trans {H H1 H2 : Hp} {p p1 p2 : Pl} (e : ExtE H p H1 p1) (f : ExtE H1 p1 H2 p2) : ExtE H p H2 p2 :=
  ⟨fresh_app e.t e.α f.α, f.ω.trans e.ω, f.γ.trans e.γ, fun a o h n => f.k a o (e.k a o h n) (not_fresh e.α h n), fun a h => f.t a (e.t a h)⟩
theorem ExtE.same {H H' : Hp} {p : Pl} (s : Same H H') : ExtE H p H' p :=
  ⟨⟨[], by simp⟩, rfl, rfl, fun b u e _ => s b u e, fun b n => by
    cases q : H b with
    | none => exact absurd q n
    | some o => rw [s b o q]; exact nofun⟩
theorem same_new {H : Hp} {p : Addr} {o : HO} (h : H p = none) : Same H (upd H p o) := fun b u e => (upd_ne (ne_of_none e h)).trans e
theorem ExtE.new {H : Hp} {p : Pl} {a : Addr} {o : HO} (h : H a = none) : ExtE H p (upd H a o) p := .same (same_new h)
theorem Ext.keep {H H' : Hp} {p p' : Pl} (e : Ext H p H' p') {a : Addr} {o : HO} (h : H a = some o) (n : ¬ p.has a) : H' a = some o := e.k a o h (fun q => n (.inl q)) fun q => n (.inr (.inl q))
theorem Rd.ext {H H' : Hp} {p p' : Pl} (e : Ext H p H' p') {a : Addr} {u : HO} (r : Rd H a u) (n : ¬ p.has a) : Rd H' a u ∧ ¬ p'.has a := by
  rcases r with r | ⟨o, r⟩
  · exact ⟨.inl (e.keep r n), e.has r n⟩
  · exact ⟨.inr ⟨o, e.keep r n⟩, e.has r n⟩
section
variable {Z : Cz} {H H' : Hp} {p p' : Pl}
theorem LstAt.ext (e : Ext H p H' p') {a : Addr} {vs : List V} (h : LstAt Z H p a vs) : LstAt Z H' p' a vs := ⟨e.keep h.1 h.2, e.has h.1 h.2⟩
theorem PlT.ext (e : Ext H p H' p') {a : Addr} {vs : List V} (r : PlT H a vs) (n : ¬ p.has a) : PlT H' a vs ∧ ¬ p'.has a := by
  obtain ⟨o, r, d⟩ := r
  exact ⟨⟨o, e.keep r n, d⟩, e.has r n⟩
theorem TupAt.ext (e : Ext H p H' p') {a : Addr} {vs : List V} (h : TupAt Z H p a vs) : TupAt Z H' p' a vs := h.imp (fun q => PlT.ext e q.1 q.2) id
theorem LstAt.sq {a : Addr} {vs : List V} (h : LstAt Z H p a vs) : SqL Z.K H a vs := SqL.of h.1
theorem PlT.rd {a : Addr} {vs : List V} (r : PlT H a vs) : Rd H a (.tup vs) := by
  obtain ⟨o, r, _⟩ := r
  exact .inr ⟨o, r⟩
theorem TupAt.sq {a : Addr} {vs : List V} (h : TupAt Z H p a vs) : SqT Z.K H a vs := h.elim (fun q => .inl q.1.rd) fun q => q.sq H
mutual
theorem IsD.ext (e : Ext H p H' p') : ∀ (d : Dat) {v : V}, IsD Z H p v d → IsD Z H' p' v d
  | .non, _, h => by unfold IsD at h ⊢; exact h
  | .bl b, _, h => by unfold IsD at h ⊢; exact h
  | .int i, _, h => by unfold IsD at h ⊢; exact h
  | .str x, _, h => by unfold IsD at h ⊢; exact h
  | .ty n, _, h => by unfold IsD at h ⊢; exact h
  | .cls c, _, h => by unfold IsD at h ⊢; exact h
  | .scr ns, _, h => by
    unfold IsD at h ⊢
    obtain ⟨a, rfl, h1⟩ := h
    exact ⟨a, rfl, h1.imp (fun q => Rd.ext e q.1 q.2) id⟩
  | .tup ds, _, h => by
    unfold IsD at h ⊢
    obtain ⟨a, vs, rfl, h1, h2⟩ := h
    exact ⟨a, vs, rfl, h1.ext e, IsDs.ext e ds h2⟩
  | .lst ds, _, h => by
    unfold IsD at h ⊢
    obtain ⟨a, vs, rfl, h1, h2⟩ := h
    exact ⟨a, vs, rfl, h1.ext e, IsDs.ext e ds h2⟩
  | .dic ks ds, _, h => by
    unfold IsD at h ⊢
    obtain ⟨a, vs, rfl, h1, hl, h2⟩ := h
    exact ⟨a, vs, rfl, ⟨e.keep h1.1 h1.2, e.has h1.1 h1.2⟩, hl, IsDs.ext e ds h2⟩
  | .obj c fs ds, _, h => by
    unfold IsD at h ⊢
    obtain ⟨a, vs, rfl, ⟨⟨dx, h1⟩, n⟩, hl, h2⟩ := h
    exact ⟨a, vs, rfl, ⟨⟨dx, e.keep h1 n⟩, e.has h1 n⟩, hl, IsDs.ext e ds h2⟩
  | .loc n, _, h => by
    unfold IsD at h ⊢
    obtain ⟨a, rfl, h1⟩ := h
    obtain ⟨β, e1, _⟩ := e.α
    refine ⟨a, rfl, ?_⟩
    rw [e1, List.getElem?_append_left (List.getElem?_eq_some_iff.mp h1).1]
    exact h1
theorem IsDs.ext (e : Ext H p H' p') : ∀ (ds : List Dat) {vs : List V}, IsDs Z H p vs ds → IsDs Z H' p' vs ds
  | [], _, h => by unfold IsDs at h ⊢; exact h
  | d :: ds, _, h => by
    unfold IsDs at h ⊢
    obtain ⟨v, r, rfl, h1, h2⟩ := h
    exact ⟨v, r, rfl, IsD.ext e d h1, IsDs.ext e ds h2⟩
end
theorem isD_non {v : V} : IsD Z H p v .non ↔ v = .non := by unfold IsD; rfl
theorem isD_bl {v : V} {b : Bool} : IsD Z H p v (.bl b) ↔ v = .bl b := by unfold IsD; rfl
theorem isD_int {v : V} {i : Int} : IsD Z H p v (.int i) ↔ v = .int i := by unfold IsD; rfl
theorem isD_str {v : V} {x : Str} : IsD Z H p v (.str x) ↔ v = .str x := by unfold IsD; rfl
theorem isD_ty {v : V} {x : String} : IsD Z H p v (.ty x) ↔ v = .ty x := by unfold IsD; rfl
theorem isD_tup {v : V} {ds : List Dat} : IsD Z H p v (.tup ds) ↔ ∃ a vs, v = .ref a ∧ TupAt Z H p a vs ∧ IsDs Z H p vs ds := by
  constructor <;> (intro h; unfold IsD at *; exact h)
theorem isD_lst {v : V} {ds : List Dat} : IsD Z H p v (.lst ds) ↔ ∃ a vs, v = .ref a ∧ LstAt Z H p a vs ∧ IsDs Z H p vs ds := by
  constructor <;> (intro h; unfold IsD at *; exact h)
theorem isD_dic {v : V} {ks : List Key} {ds : List Dat} : IsD Z H p v (.dic ks ds) ↔ ∃ a vs, v = .ref a ∧ DicAt H p a (ks.zip vs) ∧ ks.length = vs.length ∧ IsDs Z H p vs ds := by
  constructor <;> (intro h; unfold IsD at *; exact h)
theorem isD_obj {v : V} {c : String} {fs : List Str} {ds : List Dat} : IsD Z H p v (.obj c fs ds) ↔ ∃ a vs, v = .ref a ∧ ObjAt H p a (Z.κ c) (fs.zip vs) ∧ fs.length = vs.length ∧ IsDs Z H p vs ds := by
  constructor <;> (intro h; unfold IsD at *; exact h)
theorem isD_loc {v : V} {n : Nat} : IsD Z H p v (.loc n) ↔ ∃ a, v = .ref a ∧ p.α[n]? = some a := by
  constructor <;> (intro h; unfold IsD at *; exact h)
theorem isD_scr {v : V} {ns : List Int} : IsD Z H p v (.scr ns) ↔ ∃ a, v = .ref a ∧ ((Rd H a (.lst (ns.map V.int)) ∧ ¬ p.has a) ∨ ∀ H', SqL Z.K H' a (ns.map V.int)) := by
  constructor <;> (intro h; unfold IsD at *; exact h)
theorem isDs_nil {vs : List V} : IsDs Z H p vs [] ↔ vs = [] := by unfold IsDs; rfl
theorem isDs_cons {vs : List V} {d : Dat} {ds : List Dat} : IsDs Z H p vs (d :: ds) ↔ ∃ v r, vs = v :: r ∧ IsD Z H p v d ∧ IsDs Z H p r ds := by
  rw [IsDs]
theorem IsDs.len : ∀ {ds : List Dat} {vs : List V}, IsDs Z H p vs ds → vs.length = ds.length
  | [], _, h => by rw [isDs_nil.mp h]; rfl
  | d :: ds, _, h => by
    obtain ⟨v, r, rfl, _, h2⟩ := isDs_cons.mp h
    rw [List.length_cons, List.length_cons, IsDs.len h2]
theorem IsDs.get : ∀ {ds : List Dat} {vs : List V} {i : Nat} {d : Dat}, IsDs Z H p vs ds → ds[i]? = some d → ∃ v, vs[i]? = some v ∧ IsD Z H p v d
  | [], _, i, d, _, e => by simp at e
  | c :: ds, _, 0, d, h, e => by
    obtain ⟨v, r, rfl, h1, _⟩ := isDs_cons.mp h
    simp at e
    subst e
    exact ⟨v, rfl, h1⟩
  | c :: ds, _, i + 1, d, h, e => by
    obtain ⟨v, r, rfl, _, h2⟩ := isDs_cons.mp h
    obtain ⟨u, q1, q2⟩ := IsDs.get (i := i) h2 (by simpa using e)
    exact ⟨u, by simpa using q1, q2⟩
theorem IsDs.append : ∀ {ds es : List Dat} {vs ws : List V}, IsDs Z H p vs ds → IsDs Z H p ws es → IsDs Z H p (vs ++ ws) (ds ++ es)
  | [], _, _, _, h, g => by rw [isDs_nil.mp h]; exact g
  | d :: ds, _, _, _, h, g => by
    obtain ⟨v, r, rfl, h1, h2⟩ := isDs_cons.mp h
    exact isDs_cons.mpr ⟨v, _, rfl, h1, IsDs.append h2 g⟩
theorem IsDs.one {v : V} {d : Dat} (h : IsD Z H p v d) : IsDs Z H p [v] [d] := isDs_cons.mpr ⟨v, [], rfl, h, isDs_nil.mpr rfl⟩
theorem IsDs.drop : ∀ {ds : List Dat} {vs : List V} (n : Nat), IsDs Z H p vs ds → IsDs Z H p (vs.drop n) (ds.drop n)
  | _, _, 0, h => h
  | [], _, n + 1, h => by rw [isDs_nil.mp h]; exact isDs_nil.mpr rfl
  | d :: ds, _, n + 1, h => by
    obtain ⟨v, r, rfl, _, h2⟩ := isDs_cons.mp h
    exact IsDs.drop n h2
theorem IsDs.take : ∀ {ds : List Dat} {vs : List V} (n : Nat), IsDs Z H p vs ds → IsDs Z H p (vs.take n) (ds.take n)
  | _, _, 0, _ => isDs_nil.mpr rfl
  | [], _, n + 1, h => by rw [isDs_nil.mp h]; exact isDs_nil.mpr rfl
  | d :: ds, _, n + 1, h => by
    obtain ⟨v, r, rfl, h1, h2⟩ := isDs_cons.mp h
    exact isDs_cons.mpr ⟨v, _, rfl, h1, IsDs.take n h2⟩
theorem IsDs.set : ∀ {ds : List Dat} {vs : List V} {u : V} {e : Dat} (i : Nat), IsDs Z H p vs ds → IsD Z H p u e → IsDs Z H p (vs.set i u) (ds.set i e)
  | [], _, _, _, _, h, _ => by rw [isDs_nil.mp h]; exact isDs_nil.mpr rfl
  | d :: ds, _, u, e, 0, h, g => by
    obtain ⟨v, r, rfl, _, h2⟩ := isDs_cons.mp h
    exact isDs_cons.mpr ⟨u, r, rfl, g, h2⟩
  | d :: ds, _, u, e, i + 1, h, g => by
    obtain ⟨v, r, rfl, h1, h2⟩ := isDs_cons.mp h
    exact isDs_cons.mpr ⟨v, _, rfl, h1, IsDs.set i h2 g⟩
/-- strong is weak -/
theorem IsD.w {v : V} {d : Dat} (h : IsD Z H p v d) : IsW Z H p v d := by
  cases d with
  | lst ds =>
    obtain ⟨a, vs, rfl, h1, h2⟩ := isD_lst.mp h
    exact ⟨a, vs, rfl, ⟨h1.1, fun z => h1.2 (.inl z), fun z => h1.2 (.inr (.inr z))⟩, h2⟩
  | dic ks ds =>
    obtain ⟨a, vs, rfl, h1, hl, h2⟩ := isD_dic.mp h
    exact ⟨a, vs, rfl, ⟨h1.1, fun z => h1.2 (.inl z), fun z => h1.2 (.inr (.inr z))⟩, hl, h2⟩
  | obj c fs ds =>
    obtain ⟨a, vs, rfl, h1, hl, h2⟩ := isD_obj.mp h
    exact ⟨a, vs, rfl, ⟨h1.1, fun z => h1.2 (.inl z), fun z => h1.2 (.inr (.inr z))⟩, hl, h2⟩
  | _ => exact h
end
def IsTop (Z : Cz) (H : Hp) (p : Pl) (a : Addr) : Dat → Prop
  | .lst ds => ∃ vs, H a = some (.lst vs) ∧ IsDs Z H p vs ds
  | .dic ks ds => ∃ vs, H a = some (.dK (ks.zip vs)) ∧ ks.length = vs.length ∧ IsDs Z H p vs ds
  | .obj c fs ds => ∃ dx vs, H a = some (.ins (Z.κ c) dx (fs.zip vs)) ∧ fs.length = vs.length ∧ IsDs Z H p vs ds
  | _ => False
structure IsS (Z : Cz) (H : Hp) (p : Pl) (S : List Dat) : Prop where
  len : p.α.length = S.length
  nd : p.α.Nodup
  dj : ∀ a ∈ p.ω, a ∉ p.α ∧ a ∉ p.γ
  dg : ∀ a ∈ p.γ, a ∉ p.α
  wt : ∀ a, a ∈ p.ω ∨ a ∈ p.γ → H a ≠ none
  at_ : ∀ (n : Nat) (a : Addr) (d : Dat), p.α[n]? = some a → S[n]? = some d → IsTop Z H p a d
theorem IsTop.there {Z : Cz} {H : Hp} {p : Pl} {a : Addr} {d : Dat} (h : IsTop Z H p a d) : H a ≠ none := by
  cases d with
  | lst ds => obtain ⟨vs, e, _⟩ := h; rw [e]; exact nofun
  | dic ks ds => obtain ⟨vs, e, _⟩ := h; rw [e]; exact nofun
  | obj c fs ds => obtain ⟨dx, vs, e, _⟩ := h; rw [e]; exact nofun
  | _ => exact h.elim
theorem IsS.tracked {Z : Cz} {H : Hp} {p : Pl} {S : List Dat} (h : IsS Z H p S) {a : Addr} (q : p.has a) : H a ≠ none := by
  rcases q with q | q
  · obtain ⟨n, hn⟩ := List.getElem?_of_mem q
    have lt := (List.getElem?_eq_some_iff.mp hn).1
    exact (h.at_ n a (S[n]'(h.len ▸ lt)) hn (List.getElem?_eq_getElem (h.len ▸ lt))).there
  · exact h.wt a q
abbrev Env := List (Option Dat)
/-- the slots: O tells the own ones (a place of the frame's alone) -/
structure IsE (Z : Cz) (O : List Nat) (H : Hp) (p : Pl) (σ : L2.St) (ρ : Env) : Prop where
  len : σ.length = ρ.length
  get : ∀ (i : Nat) (d : Dat), i ∉ O → ρ[i]? = some (some d) → ∃ v, σ[i]? = some (some v) ∧ IsD Z H p v d
  own : ∀ (i : Nat) (d : Dat), i ∈ O → ρ[i]? = some (some d) → ∃ a, σ[i]? = some (some (.ref a)) ∧ a ∈ p.ω ∧ IsTop Z H p a d
  dj : ∀ (i j : Nat) (a : Addr), i ∈ O → j ∈ O → i ≠ j → (∃ d, ρ[i]? = some (some d)) → (∃ d, ρ[j]? = some (some d)) → σ[i]? = some (some (.ref a)) → σ[j]? ≠ some (some (.ref a))
theorem IsTop.ext {Z : Cz} {H H' : Hp} {p p' : Pl} (e : Ext H p H' p') {a : Addr} (k : ∀ o, H a = some o → H' a = some o) {d : Dat} (h : IsTop Z H p a d) : IsTop Z H' p' a d := by
  cases d with
  | lst ds => obtain ⟨vs, e1, h1⟩ := h; exact ⟨vs, k _ e1, h1.ext e⟩
  | dic ks ds => obtain ⟨vs, e1, l, h1⟩ := h; exact ⟨vs, k _ e1, l, h1.ext e⟩
  | obj c fs ds => obtain ⟨dx, vs, e1, l, h1⟩ := h; exact ⟨dx, vs, k _ e1, l, h1.ext e⟩
  | _ => exact h.elim
theorem IsE.ext {Z : Cz} {O : List Nat} {H H' : Hp} {p p' : Pl} {σ : L2.St} {ρ : Env} {S : List Dat} (e : ExtE H p H' p') (s : IsS Z H p S) (h : IsE Z O H p σ ρ) : IsE Z O H' p' σ ρ := by
  refine ⟨h.len, fun i d n q => ?_, fun i d n q => ?_, h.dj⟩
  · obtain ⟨v, h1, h2⟩ := h.get i d n q
    exact ⟨v, h1, h2.ext e.s⟩
  · obtain ⟨a, h1, h2, h3⟩ := h.own i d n q
    exact ⟨a, h1, by rw [e.ω]; exact h2, h3.ext e.s fun o z => e.k a o z (s.dj a h2).1⟩
/-- the store stays where its places do -/
theorem IsS.ext {Z : Cz} {H H' : Hp} {p : Pl} {S : List Dat} (sm : Same H H') (s : IsS Z H p S) : IsS Z H' p S :=
  ⟨s.len, s.nd, s.dj, s.dg, fun a q z => s.wt a q (back_of (ExtE.same (p := p) sm).t z), fun n a d h1 h2 => (s.at_ n a d h1 h2).ext (ExtE.same sm).s fun o z => sm a o z⟩
end Zd
namespace Zd
open PySem PySem.Spec PyProof.Rows L2
inductive Out (α : Type) where
  | ok (a : α) (S : List Dat)
  | er (c : String) (fs : List Dat) (S : List Dat)
  | bad
def M (α : Type) : Type := List Dat → Out α
def M.ret {α : Type} (a : α) : M α := fun S => .ok a S
def M.bnd {α β : Type} (m : M α) (f : α → M β) : M β := fun S => match m S with
  | .ok a S' => f a S'
  | .er c fs S' => .er c fs S'
  | .bad => .bad
def M.no {α : Type} : M α := fun _ => .bad
instance : Monad M where
  pure := M.ret
  bind := M.bnd
theorem m_bind {α β : Type} (m : M α) (f : α → M β) (S : List Dat) : (m >>= f) S = match m S with
  | .ok a S' => f a S'
  | .er c fs S' => .er c fs S'
  | .bad => .bad := rfl
instance : LawfulMonad M := LawfulMonad.mk' M (fun m => by funext S; show M.bnd m M.ret S = m S; unfold M.bnd M.ret; cases m S <;> rfl) (fun _ _ => rfl) (fun m f g => by
  funext S
  show M.bnd (M.bnd m f) g S = M.bnd m (fun x => M.bnd (f x) g) S
  unfold M.bnd
  cases m S <;> rfl)
/-- a test of one's own: what is not so is not spoken of -/
def M.need (b : Bool) : M Unit := if b then pure () else M.no
def M.opt {α : Type} : Option α → M α
  | some a => pure a
  | none => M.no
inductive Flow where
  | nx (ρ : Env) | rt (d : Dat) | bk (ρ : Env) | ct (ρ : Env)
abbrev ErW := String → List Dat → List Dat → Hp → List Addr → List Addr → Prop
abbrev XR := Hp → Pl → Hp → Pl → Prop
def Post {α : Type} (Z : Cz) (Er : ErW) (X : XR) (o : Out α) (H : Hp) (p : Pl) (C : α → List Dat → Hp → Pl → Prop) : Prop := match o with
  | .ok a S' => ∀ H' p', X H p H' p' → IsS Z H' p' S' → C a S' H' p'
  | .er c fs S' => ∀ H' p', X H p H' p' → IsS Z H' p' S' → Er c fs S' H' p'.α p'.γ
  | .bad => False
structure XOk (X : XR) : Prop where
  refl : ∀ {H p}, X H p H p
  trans : ∀ {H p H1 p1 H2 p2}, X H p H1 p1 → X H1 p1 H2 p2 → X H p H2 p2
  of : ∀ {H p H' p'}, ExtE H p H' p' → X H p H' p'
  s : ∀ {H p H' p'}, X H p H' p' → Ext H p H' p'
theorem xE : XOk ExtE := ⟨ExtE.refl, fun a b => a.trans b, id, ExtE.s⟩
theorem xS : XOk Ext := ⟨Ext.refl, fun a b => a.trans b, ExtE.s, id⟩
section
variable {Z : Cz} {Er : ErW} {X : XR} {α β : Type} {o : Out α} {H : Hp} {p : Pl} {S : List Dat}
theorem Post.bnd (x : XOk X) {m : M α} {f : α → M β} {C : β → List Dat → Hp → Pl → Prop} (h : Post Z Er X ((m >>= f) S) H p C) : Post Z Er X (m S) H p fun a S' H' p' => Post Z Er X (f a S') H' p' C := by
  rw [m_bind] at h
  cases q : m S with
  | ok a S' =>
    rw [q] at h
    show ∀ H' p', X H p H' p' → IsS Z H' p' S' → Post Z Er X (f a S') H' p' C
    intro H' p' e s
    have h : Post Z Er X (f a S') H p C := h
    unfold Post at h ⊢
    cases q2 : f a S' with
    | ok b S2 => rw [q2] at h; exact fun H2 p2 e2 s2 => h H2 p2 (x.trans e e2) s2
    | er c fs S2 => rw [q2] at h; exact fun H2 p2 e2 s2 => h H2 p2 (x.trans e e2) s2
    | bad => rw [q2] at h; exact h
  | er c fs S' =>
    rw [q] at h
    exact h
  | bad =>
    rw [q] at h
    exact h
/-- the same, from the same place -/
theorem Post.bndK {m : M α} {f : α → M β} {C : β → List Dat → Hp → Pl → Prop} (h : Post Z Er X ((m >>= f) S) H p C) : Post Z Er X (m S) H p fun a S' _ _ => Post Z Er X (f a S') H p C := by
  rw [m_bind] at h
  cases q : m S with
  | ok a S' => rw [q] at h; exact fun _ _ _ _ => h
  | er c fs S' => rw [q] at h; exact h
  | bad => rw [q] at h; exact h
theorem Post.mono {C D : α → List Dat → Hp → Pl → Prop} (h : Post Z Er X o H p C) (k : ∀ a S' H' p', X H p H' p' → IsS Z H' p' S' → C a S' H' p' → D a S' H' p') : Post Z Er X o H p D := by
  unfold Post at h ⊢
  cases o with
  | ok a S' => exact fun H' p' e s => k a S' H' p' e s (h H' p' e s)
  | er c fs S' => exact h
  | bad => exact h
theorem Post.pure {a : α} {C : α → List Dat → Hp → Pl → Prop} (x : XOk X) (h : Post Z Er X ((Pure.pure a : M α) S) H p C) (s : IsS Z H p S) : C a S H p := h H p x.refl s
theorem Post.of {C : α → List Dat → Hp → Pl → Prop} (x : XOk X) (h : Post Z Er X o H p C) : Post Z Er ExtE o H p C := by
  unfold Post at h ⊢
  cases o with
  | ok a S' => exact fun H' p' e s => h H' p' (x.of e) s
  | er c fs S' => exact fun H' p' e s => h H' p' (x.of e) s
  | bad => exact h
theorem Post.need {b : Bool} {m : M α} {C : α → List Dat → Hp → Pl → Prop} (h : Post Z Er X ((M.need b >>= fun _ => m) S) H p C) : b = true ∧ Post Z Er X (m S) H p C := by
  cases b with
  | true => exact ⟨rfl, h⟩
  | false => exact (show False from h).elim
theorem Post.opt {a : Option β} {f : β → M α} {C : α → List Dat → Hp → Pl → Prop} (h : Post Z Er X ((M.opt a >>= f) S) H p C) : ∃ b, a = some b ∧ Post Z Er X (f b S) H p C := by
  cases a with
  | some b => exact ⟨b, rfl, h⟩
  | none => exact (show False from h).elim
end
def J (Z : Cz) (Er : ErW) (O : List Nat) {α β : Type} (Rel : Hp → Pl → β → α → Prop) (te : L2.St → Hp → (β → Hp → Prop) → Prop) (m : Env → M α) : Prop :=
  ∀ (σ : L2.St) (H : Hp) (p : Pl) (ρ : Env) (S : List Dat) (Q : β → Hp → Prop), IsE Z O H p σ ρ → IsS Z H p S → Post Z Er ExtE (m ρ S) H p (fun a _ H' p' => ∀ b, Rel H' p' b a → Q b H') → te σ H Q
abbrev JD (Z : Cz) (Er : ErW) (O : List Nat) (te : TE) (m : Env → M Dat) : Prop := J Z Er O (IsD Z) te m
abbrev JW (Z : Cz) (Er : ErW) (O : List Nat) (te : TE) (m : Env → M Dat) : Prop := J Z Er O (IsW Z) te m
abbrev JB (Z : Cz) (Er : ErW) (O : List Nat) (tt : TT) (m : Env → M Bool) : Prop := J Z Er O (fun _ _ b c => b = c) tt m
abbrev JA (Z : Cz) (Er : ErW) (O : List Nat) (ta : TA) (m : Env → M (List Dat)) : Prop := J Z Er O (IsDs Z) ta m
abbrev JO (Z : Cz) (Er : ErW) (O : List Nat) (to : TO) (m : Env → M (Option Int)) : Prop := J Z Er O (fun _ _ b c => b = c) to m
/-- a new list, dict, that nobody has -/
def JF (Z : Cz) (Er : ErW) (O : List Nat) (te : TE) (m : Env → M Dat) : Prop :=
  ∀ (σ : L2.St) (H : Hp) (p : Pl) (ρ : Env) (S : List Dat) (Q : V → Hp → Prop), IsE Z O H p σ ρ → IsS Z H p S → Post Z Er ExtE (m ρ S) H p (fun d S' H' p' => ∀ a, H a = none → H' a ≠ none → ¬ p'.has a → IsS Z H' ⟨p'.α, p'.ω ++ [a], p'.γ⟩ S' → IsTop Z H' ⟨p'.α, p'.ω ++ [a], p'.γ⟩ a d → Q (.ref a) H') → te σ H Q
/-- two-place, one-place operations on values -/
def JR (Z : Cz) (A1 A2 A3 : Hp → Pl → V → Dat → Prop) (r : L2.R2) (f : Dat → Dat → M Dat) : Prop :=
  ∀ (x y : V) (d e : Dat) (Er : ErW) (H : Hp) (p : Pl) (S : List Dat) (Q : VK), A1 H p x d → A2 H p y e → IsS Z H p S → Post Z Er ExtE (f d e S) H p (fun a _ H' p' => ∀ v, A3 H' p' v a → Q v H') → r x y H Q
def JU (Z : Cz) (A1 A3 : Hp → Pl → V → Dat → Prop) (r : V → Hp → VK → Prop) (f : Dat → M Dat) : Prop :=
  ∀ (x : V) (d : Dat) (Er : ErW) (H : Hp) (p : Pl) (S : List Dat) (Q : VK), A1 H p x d → IsS Z H p S → Post Z Er ExtE (f d S) H p (fun a _ H' p' => ∀ v, A3 H' p' v a → Q v H') → r x H Q
def JC (Z : Cz) (A1 : Hp → Pl → List V → List Dat → Prop) (A3 : Hp → Pl → V → Dat → Prop) (r : List V → Hp → VK → Prop) (f : List Dat → M Dat) : Prop :=
  ∀ (x : List V) (d : List Dat) (Er : ErW) (H : Hp) (p : Pl) (S : List Dat) (Q : VK), A1 H p x d → IsS Z H p S → Post Z Er ExtE (f d S) H p (fun a _ H' p' => ∀ v, A3 H' p' v a → Q v H') → r x H Q
section
variable {Z : Cz} {Er : ErW} {O : List Nat} {te ta tb tc : TE} {tt tu : TT} {m m1 m2 m3 : Env → M Dat} {mb mc : Env → M Bool}
theorem JD.w (h : JD Z Er O te m) : JW Z Er O te m := fun σ H p ρ S Q hE hS q => h σ H p ρ S Q hE hS (q.mono fun _ _ _ _ _ _ k v hv => k v hv.w)
def xVar (i : Nat) (ρ : Env) : M Dat := match ρ[i]? with
  | some (some d) => pure d
  | _ => M.no
theorem j_var {i : Nat} (n : i ∉ O) : JD Z Er O (tVar i) (xVar i) := fun σ H p ρ S Q hE hS q => by
  unfold xVar at q
  match e : ρ[i]?, q with
  | some (some d), q =>
    obtain ⟨v, h1, h2⟩ := hE.get i d n e
    exact ⟨v, h1, q.pure xE hS v h2⟩
  | some none, q => exact (show False from q).elim
  | none, q => exact (show False from q).elim
def xC (d : Dat) (_ : Env) : M Dat := pure d
theorem j_c {v : V} {d : Dat} (h : ∀ H p, IsD Z H p v d) : JD Z Er O (tC v) (xC d) := fun σ H p ρ S Q hE hS q => q.pure xE hS v (h H p)
theorem j_int {i : Int} : JD Z Er O (tC (.int i)) (xC (.int i)) := j_c fun _ _ => isD_int.mpr rfl
theorem j_str {i : Str} : JD Z Er O (tC (.str i)) (xC (.str i)) := j_c fun _ _ => isD_str.mpr rfl
theorem j_bl {i : Bool} : JD Z Er O (tC (.bl i)) (xC (.bl i)) := j_c fun _ _ => isD_bl.mpr rfl
theorem j_non : JD Z Er O (tC .non) (xC .non) := j_c fun _ _ => isD_non.mpr rfl
theorem j_ty {i : String} : JD Z Er O (tC (.ty i)) (xC (.ty i)) := j_c fun _ _ => isD_ty.mpr rfl
def xOp (f : Dat → Dat → M Dat) (a b : Env → M Dat) (ρ : Env) : M Dat := a ρ >>= fun x => b ρ >>= fun y => f x y
structure Up (Z : Cz) (R : Hp → Pl → V → Dat → Prop) : Prop where
  up : ∀ {H p H' p' v d S}, ExtE H p H' p' → IsS Z H p S → R H p v d → R H' p' v d
theorem upD : Up Z (IsD Z) := ⟨fun e _ h => h.ext e.s⟩
theorem upW : Up Z (IsW Z) := ⟨fun {H p H' p' v d S} e s h => by
  cases d with
  | lst ds =>
    obtain ⟨a, vs, rfl, ⟨r, n1, n2⟩, h2⟩ := h
    exact ⟨a, vs, rfl, ⟨e.k _ _ r n1, not_fresh e.α r n1, by rw [e.γ]; exact n2⟩, h2.ext e.s⟩
  | dic ks ds =>
    obtain ⟨a, vs, rfl, ⟨r, n1, n2⟩, l, h2⟩ := h
    exact ⟨a, vs, rfl, ⟨e.k _ _ r n1, not_fresh e.α r n1, by rw [e.γ]; exact n2⟩, l, h2.ext e.s⟩
  | obj c fs ds =>
    obtain ⟨a, vs, rfl, ⟨⟨dx, r⟩, n1, n2⟩, l, h2⟩ := h
    exact ⟨a, vs, rfl, ⟨⟨dx, e.k _ _ r n1⟩, not_fresh e.α r n1, by rw [e.γ]; exact n2⟩, l, h2.ext e.s⟩
  | non => exact IsD.ext e.s _ h
  | bl b => exact IsD.ext e.s _ h
  | int i => exact IsD.ext e.s _ h
  | str x => exact IsD.ext e.s _ h
  | tup ds => exact IsD.ext e.s _ h
  | loc n => exact IsD.ext e.s _ h
  | ty n => exact IsD.ext e.s _ h
  | cls n => exact IsD.ext e.s _ h
  | scr n => exact IsD.ext e.s _ h⟩
variable {A1 A2 A3 : Hp → Pl → V → Dat → Prop} {r : L2.R2} {f : Dat → Dat → M Dat}
theorem j_op (u : Up Z A1) (hr : JR Z A1 A2 A3 r f) (ha : J Z Er O A1 ta m1) (hb : J Z Er O A2 tb m2) : J Z Er O A3 (tOp r ta tb) (xOp f m1 m2) := fun σ H p ρ S Q hE hS q =>
  ha σ H p ρ S _ hE hS ((q.bnd xE).mono fun d S1 H1 p1 e1 s1 q1 v hv => hb σ H1 p1 ρ S1 _ (hE.ext e1 hS) s1 ((q1.bnd xE).mono fun e S2 H2 p2 e2 s2 q2 w hw => hr v w d e Er H2 p2 S2 _ (u.up e2 s1 hv) hw s2 q2))
def xUn (f : Dat → M Dat) (a : Env → M Dat) (ρ : Env) : M Dat := a ρ >>= f
theorem j_un {r : V → Hp → VK → Prop} {f : Dat → M Dat} (hr : JU Z A1 A3 r f) (ha : J Z Er O A1 ta m1) : J Z Er O A3 (tUn r ta) (xUn f m1) := fun σ H p ρ S Q hE hS q =>
  ha σ H p ρ S _ hE hS ((q.bnd xE).mono fun d S1 H1 p1 e1 s1 q1 v hv => hr v d Er H1 p1 S1 _ hv s1 q1)
def dB : Dat → Option Bool
  | .bl b => some b
  | _ => none
theorem dB_some {d : Dat} {b : Bool} (h : dB d = some b) : d = .bl b := by
  cases d <;> first | (cases h; rfl) | cases h
def bTest (a : Env → M Dat) (ρ : Env) : M Bool := a ρ >>= fun x => M.opt (dB x)
theorem opt_pure {α : Type} {a : Option α} {S : List Dat} {H : Hp} {p : Pl} {X : XR} {C : α → List Dat → Hp → Pl → Prop} (x : XOk X) (h : Post Z Er X (M.opt a S) H p C) (s : IsS Z H p S) : ∃ b, a = some b ∧ C b S H p := by
  cases a with
  | some b => exact ⟨b, rfl, h H p x.refl s⟩
  | none => exact (show False from h).elim
theorem jb_test (ha : JD Z Er O ta m1) : JB Z Er O (tTest ta) (bTest m1) := fun σ H p ρ S Q hE hS q =>
  ha σ H p ρ S _ hE hS ((q.bnd xE).mono fun d S1 H1 p1 e1 s1 q1 v hv => by
    obtain ⟨b, e, k⟩ := opt_pure xE q1 s1
    rw [dB_some e] at hv
    exact ⟨b, isD_bl.mp hv, k b rfl⟩)
theorem jb_B (ha : JD Z Er O ta m1) : JB Z Er O (tB ta) (bTest m1) := jb_test ha
def bAnd (a b : Env → M Bool) (ρ : Env) : M Bool := a ρ >>= fun x => if x = true then b ρ else pure false
def bOr (a b : Env → M Bool) (ρ : Env) : M Bool := a ρ >>= fun x => if x = true then pure true else b ρ
def bNot (a : Env → M Bool) (ρ : Env) : M Bool := a ρ >>= fun x => pure (!x)
theorem jb_and (ha : JB Z Er O tt mb) (hb : JB Z Er O tu mc) : JB Z Er O (tAnd tt tu) (bAnd mb mc) := fun σ H p ρ S Q hE hS q =>
  ha σ H p ρ S _ hE hS ((q.bnd xE).mono fun d S1 H1 p1 e1 s1 q1 v hv => by
    subst hv
    cases v with
    | true => exact hb σ H1 p1 ρ S1 Q (hE.ext e1 hS) s1 q1
    | false => exact Post.pure xE q1 s1 false rfl)
theorem jb_or (ha : JB Z Er O tt mb) (hb : JB Z Er O tu mc) : JB Z Er O (tOr tt tu) (bOr mb mc) := fun σ H p ρ S Q hE hS q =>
  ha σ H p ρ S _ hE hS ((q.bnd xE).mono fun d S1 H1 p1 e1 s1 q1 v hv => by
    subst hv
    cases v with
    | false => exact hb σ H1 p1 ρ S1 Q (hE.ext e1 hS) s1 q1
    | true => exact Post.pure xE q1 s1 true rfl)
theorem jb_not (ha : JB Z Er O tt mb) : JB Z Er O (tNot tt) (bNot mb) := fun σ H p ρ S Q hE hS q =>
  ha σ H p ρ S _ hE hS ((q.bnd xE).mono fun d S1 H1 p1 e1 s1 q1 v hv => by
    subst hv
    exact Post.pure xE q1 s1 _ rfl)
def bYes (_ : Env) : M Bool := pure true
theorem jb_yes : JB Z Er O tYes bYes := fun σ H p ρ S Q hE hS q => q.pure xE hS true rfl
def xAnd (a b : Env → M Dat) (ρ : Env) : M Dat := bTest a ρ >>= fun x => if x = true then b ρ else pure (.bl false)
def xOr (a b : Env → M Dat) (ρ : Env) : M Dat := bTest a ρ >>= fun x => if x = true then pure (.bl true) else b ρ
def xNot (a : Env → M Dat) (ρ : Env) : M Dat := bTest a ρ >>= fun x => pure (.bl (!x))
theorem j_andV (ha : JD Z Er O ta m1) (hb : JD Z Er O tb m2) : JD Z Er O (tAndV ta tb) (xAnd m1 m2) := fun σ H p ρ S Q hE hS q =>
  jb_test ha σ H p ρ S (fun b H1 => if b = true then tb σ H1 Q else Q (.bl false) H1) hE hS ((q.bnd xE).mono fun d S1 H1 p1 e1 s1 q1 v hv => by
    subst hv
    cases v with
    | true => exact hb σ H1 p1 ρ S1 Q (hE.ext e1 hS) s1 q1
    | false => exact Post.pure xE q1 s1 _ (isD_bl.mpr rfl))
theorem j_orV (ha : JD Z Er O ta m1) (hb : JD Z Er O tb m2) : JD Z Er O (tOrV ta tb) (xOr m1 m2) := fun σ H p ρ S Q hE hS q =>
  jb_test ha σ H p ρ S (fun b H1 => if b = true then Q (.bl true) H1 else tb σ H1 Q) hE hS ((q.bnd xE).mono fun d S1 H1 p1 e1 s1 q1 v hv => by
    subst hv
    cases v with
    | false => exact hb σ H1 p1 ρ S1 Q (hE.ext e1 hS) s1 q1
    | true => exact Post.pure xE q1 s1 _ (isD_bl.mpr rfl))
theorem j_notV (ha : JD Z Er O ta m1) : JD Z Er O (tNotV ta) (xNot m1) := fun σ H p ρ S Q hE hS q =>
  jb_test ha σ H p ρ S (fun b H1 => Q (.bl (!b)) H1) hE hS ((q.bnd xE).mono fun d S1 H1 p1 e1 s1 q1 v hv => by
    subst hv
    exact Post.pure xE q1 s1 _ (isD_bl.mpr rfl))
def xIf (c : Env → M Bool) (a b : Env → M Dat) (ρ : Env) : M Dat := c ρ >>= fun x => if x = true then a ρ else b ρ
theorem j_if (hc : JB Z Er O tt mb) (ha : J Z Er O A3 ta m1) (hb : J Z Er O A3 tb m2) : J Z Er O A3 (tIf tt ta tb) (xIf mb m1 m2) := fun σ H p ρ S Q hE hS q =>
  hc σ H p ρ S _ hE hS ((q.bnd xE).mono fun d S1 H1 p1 e1 s1 q1 v hv => by
    subst hv
    cases v with
    | true => exact ha σ H1 p1 ρ S1 Q (hE.ext e1 hS) s1 q1
    | false => exact hb σ H1 p1 ρ S1 Q (hE.ext e1 hS) s1 q1)
/-- a op b op c -/
def xChain (f g : Dat → Dat → M Dat) (a b c : Env → M Dat) (ρ : Env) : M Dat := a ρ >>= fun x => b ρ >>= fun y => (f x y >>= fun z => M.opt (dB z)) >>= fun k => if k = true then c ρ >>= fun u => g y u else pure (.bl false)
theorem j_chain {r r' : L2.R2} {f g : Dat → Dat → M Dat} (hr : JR Z (IsD Z) (IsD Z) (IsD Z) r f) (hr' : JR Z (IsD Z) (IsD Z) (IsD Z) r' g) (ha : JD Z Er O ta m1) (hb : JD Z Er O tb m2) (hc : JD Z Er O tc m3) : JD Z Er O (tChain r r' ta tb tc) (xChain f g m1 m2 m3) := fun σ H p ρ S Q hE hS q =>
  ha σ H p ρ S _ hE hS ((q.bnd xE).mono fun d S1 H1 p1 e1 s1 q1 v hv => hb σ H1 p1 ρ S1 _ (hE.ext e1 hS) s1 ((q1.bnd xE).mono fun e S2 H2 p2 e2 s2 q2 w hw =>
    hr v w d e Er H2 p2 S2 _ (hv.ext e2.s) hw s2 (((q2.bnd xE).bnd xE).mono fun z S3 H3 p3 e3 s3 q3 zv hz => by
      obtain ⟨b, e, k⟩ := opt_pure xE q3 s3
      rw [dB_some e] at hz
      refine ⟨b, isD_bl.mp hz, ?_⟩
      cases b with
      | true =>
        have k : Post Z Er ExtE ((m3 ρ >>= fun u => g _ u) S3) H3 p3 _ := k
        exact hc σ H3 p3 ρ S3 _ (((hE.ext e1 hS).ext e2 s1).ext e3 s2) s3 ((k.bnd xE).mono fun u S4 H4 p4 e4 s4 q4 uv hu => hr' w uv _ _ Er H4 p4 S4 _ (hw.ext (e3.trans e4).s) hu s4 q4)
      | false => exact Post.pure xE k s3 _ (isD_bl.mpr rfl))))
def xNil (_ : Env) : M (List Dat) := pure []
def xCons (a : Env → M Dat) (l : Env → M (List Dat)) (ρ : Env) : M (List Dat) := a ρ >>= fun x => l ρ >>= fun xs => pure (x :: xs)
variable {tl : TA} {ml : Env → M (List Dat)}
theorem ja_nil : JA Z Er O tNil xNil := fun σ H p ρ S Q hE hS q => q.pure xE hS [] (isDs_nil.mpr rfl)
theorem ja_cons (ha : JD Z Er O ta m1) (hl : JA Z Er O tl ml) : JA Z Er O (tCons ta tl) (xCons m1 ml) := fun σ H p ρ S Q hE hS q =>
  ha σ H p ρ S _ hE hS ((q.bnd xE).mono fun d S1 H1 p1 e1 s1 q1 v hv => hl σ H1 p1 ρ S1 _ (hE.ext e1 hS) s1 ((q1.bnd xE).mono fun ds S2 H2 p2 e2 s2 q2 vs hvs => q2.pure xE s2 (v :: vs) (isDs_cons.mpr ⟨v, vs, rfl, hv.ext e2.s, hvs⟩)))
/-- the first one a container that may be the frame's own -/
def IsWs (Z : Cz) (H : Hp) (p : Pl) (vs : List V) : List Dat → Prop
  | [] => vs = []
  | d :: ds => ∃ v r, vs = v :: r ∧ IsW Z H p v d ∧ IsDs Z H p r ds
theorem ja_consW (ha : JW Z Er O ta m1) (hl : JA Z Er O tl ml) : J Z Er O (IsWs Z) (tCons ta tl) (xCons m1 ml) := fun σ H p ρ S Q hE hS q =>
  ha σ H p ρ S _ hE hS ((q.bnd xE).mono fun d S1 H1 p1 e1 s1 q1 v hv => hl σ H1 p1 ρ S1 _ (hE.ext e1 hS) s1 ((q1.bnd xE).mono fun ds S2 H2 p2 e2 s2 q2 vs hvs => q2.pure xE s2 (v :: vs) ⟨v, vs, rfl, upW.up e2 s1 hv, hvs⟩))
theorem no_has {H : Hp} {p : Pl} {S : List Dat} (s : IsS Z H p S) {a : Addr} (h : H a = none) : ¬ p.has a := fun q => s.tracked q h
theorem new_tup {H : Hp} {p : Pl} {S : List Dat} (s : IsS Z H p S) {a : Addr} {vs : List V} {ds : List Dat} (na : H a = none) {o : Obj} (nd : o.dict = none) (h : IsDs Z H p vs ds) : IsD Z (upd H a (.frz o (.tup vs))) p (.ref a) (.tup ds) :=
  isD_tup.mpr ⟨a, vs, rfl, .inl ⟨⟨o, upd_same, nd⟩, no_has s na⟩, h.ext (ExtE.new na).s⟩
theorem new_lst {H : Hp} {p : Pl} {S : List Dat} (s : IsS Z H p S) {a : Addr} {vs : List V} {ds : List Dat} (na : H a = none) (h : IsDs Z H p vs ds) : IsD Z (upd H a (.lst vs)) p (.ref a) (.lst ds) :=
  isD_lst.mpr ⟨a, vs, rfl, ⟨upd_same, no_has s na⟩, h.ext (ExtE.new na).s⟩
/-- a step of the heap that lays one new object -/
theorem Post.at_new {α : Type} {a : α} {H : Hp} {p : Pl} {S : List Dat} {C : α → List Dat → Hp → Pl → Prop} (q : Post Z Er ExtE ((Pure.pure a : M α) S) H p C) (s : IsS Z H p S) {x : Addr} {o : HO} (nx : H x = none) : C a S (upd H x o) p :=
  q _ _ (ExtE.new nx) (s.ext (same_new nx))
def xTup (l : Env → M (List Dat)) (ρ : Env) : M Dat := l ρ >>= fun ds => M.need (decide (ds.length ≤ 1000)) >>= fun _ => pure (.tup ds)
def xLst (l : Env → M (List Dat)) (ρ : Env) : M Dat := l ρ >>= fun ds => M.need (decide (ds.length ≤ 1000)) >>= fun _ => pure (.lst ds)
theorem few {n : Nat} (h : n ≤ 1000) : n ≤ sizeLine := Nat.le_of_lt (small1000 h)
theorem j_tup (hl : JA Z Er O tl ml) : JD Z Er O (tTup tl) (xTup ml) := fun σ H p ρ S Q hE hS q =>
  hl σ H p ρ S _ hE hS ((q.bnd xE).mono fun ds S1 H1 p1 e1 s1 q1 vs hv => by
    obtain ⟨c, q2⟩ := q1.need
    exact ⟨few (by rw [hv.len]; exact of_decide_eq_true c), fun a o na nd => q2.at_new s1 na _ (new_tup s1 na nd hv)⟩)
theorem j_lst (hl : JA Z Er O tl ml) : JD Z Er O (tLst tl) (xLst ml) := fun σ H p ρ S Q hE hS q =>
  hl σ H p ρ S _ hE hS ((q.bnd xE).mono fun ds S1 H1 p1 e1 s1 q1 vs hv => by
    obtain ⟨c, q2⟩ := q1.need
    exact ⟨few (by rw [hv.len]; exact of_decide_eq_true c), fun a na => q2.at_new s1 na _ (new_lst s1 na hv)⟩)
def xCB (f : List Dat → M Dat) (l : Env → M (List Dat)) (ρ : Env) : M Dat := l ρ >>= f
theorem j_cb {rc : List V → Hp → VK → Prop} {f : List Dat → M Dat} {RA : Hp → Pl → List V → List Dat → Prop} (hr : JC Z RA A3 rc f) (hl : J Z Er O RA tl ml) : J Z Er O A3 (tCB rc tl) (xCB f ml) := fun σ H p ρ S Q hE hS q =>
  hl σ H p ρ S _ hE hS ((q.bnd xE).mono fun ds S1 H1 p1 e1 s1 q1 vs hv => hr vs ds Er H1 p1 S1 _ hv s1 q1)
end
end Zd
namespace Zd
open PySem PySem.Spec PyProof.Rows L2
def JG (Z : Cz) (O : List Nat) (g : TG) (m : Env → Dat → Option Env) (vs : Option (List Nat)) : Prop :=
  ∀ (v : V) (σ : L2.St) (H : Hp) (p : Pl) (ρ : Env) (d : Dat) (R : L2.St → Hp → Prop), IsE Z O H p σ ρ → IsD Z H p v d → (∃ ρ', m ρ d = some ρ' ∧ ∀ σ', IsE Z O H p σ' ρ' → (∀ w, vs = some w → L2.wipe σ' w = L2.wipe σ w) → R σ' H) → g v σ H R
def JGs (Z : Cz) (O : List Nat) (g : TGs) (m : Env → List Dat → Option Env) (vs : Option (List Nat)) : Prop :=
  ∀ (v : List V) (σ : L2.St) (H : Hp) (p : Pl) (ρ : Env) (d : List Dat) (R : L2.St → Hp → Prop), IsE Z O H p σ ρ → IsDs Z H p v d → (∃ ρ', m ρ d = some ρ' ∧ ∀ σ', IsE Z O H p σ' ρ' → (∀ w, vs = some w → L2.wipe σ' w = L2.wipe σ w) → R σ' H) → g v σ H R
theorem IsE.set {Z : Cz} {O : List Nat} {H : Hp} {p : Pl} {σ : L2.St} {ρ : Env} (h : IsE Z O H p σ ρ) {i : Nat} {v : V} {d : Dat} (n : i ∉ O) (hv : IsD Z H p v d) : IsE Z O H p (σ.set i (some v)) (ρ.set i (some d)) := by
  refine ⟨by rw [List.length_set, List.length_set]; exact h.len, fun j e nj q => ?_, fun j e oj q => ?_, fun j k a oj ok ne hj hk q => ?_⟩
  · by_cases c : i = j
    · subst c
      rw [List.getElem?_set_self' ] at q ⊢
      cases z : ρ[i]? with
      | none => rw [z] at q; cases q
      | some w =>
        rw [z] at q
        cases q
        have lt := (List.getElem?_eq_some_iff.mp z).1
        rw [List.getElem?_eq_getElem (by rw [h.len]; exact lt)]
        exact ⟨v, rfl, hv⟩
    · rw [List.getElem?_set_ne c] at q ⊢
      exact h.get j e nj q
  · have c : i ≠ j := fun z => n (z ▸ oj)
    rw [List.getElem?_set_ne c] at q ⊢
    exact h.own j e oj q
  · have c1 : i ≠ j := fun z => n (z ▸ oj)
    have c2 : i ≠ k := fun z => n (z ▸ ok)
    rw [List.getElem?_set_ne c1] at hj q
    rw [List.getElem?_set_ne c2] at hk ⊢
    exact h.dj j k a oj ok ne hj hk q
theorem IsE.unset {Z : Cz} {O : List Nat} {H : Hp} {p : Pl} {σ : L2.St} {ρ : Env} (h : IsE Z O H p σ ρ) {i : Nat} : IsE Z O H p (σ.set i none) (ρ.set i none) := by
  have step : ∀ (j : Nat) (e : Dat), (ρ.set i none)[j]? = some (some e) → i ≠ j ∧ ρ[j]? = some (some e) := fun j e q => by
    by_cases c : i = j
    · subst c
      rw [List.getElem?_set_self'] at q
      cases z : ρ[i]? with
      | none => rw [z] at q; cases q
      | some w => rw [z] at q; cases q
    · rw [List.getElem?_set_ne c] at q
      exact ⟨c, q⟩
  refine ⟨by rw [List.length_set, List.length_set]; exact h.len, fun j e nj q => ?_, fun j e oj q => ?_, fun j k a oj ok ne hj hk q => ?_⟩
  · obtain ⟨c, z⟩ := step j e q
    rw [List.getElem?_set_ne c]
    exact h.get j e nj z
  · obtain ⟨c, z⟩ := step j e q
    rw [List.getElem?_set_ne c]
    exact h.own j e oj z
  · obtain ⟨d1, hj⟩ := hj
    obtain ⟨d2, hk⟩ := hk
    obtain ⟨c1, z1⟩ := step j d1 hj
    obtain ⟨c2, z2⟩ := step k d2 hk
    rw [List.getElem?_set_ne c1] at q
    rw [List.getElem?_set_ne c2]
    exact h.dj j k a oj ok ne ⟨d1, z1⟩ ⟨d2, z2⟩ q
def wipeE (ρ : Env) : List Nat → Env
  | [] => ρ
  | v :: vs => (wipeE ρ vs).set v none
theorem IsE.wipe {Z : Cz} {O : List Nat} {H : Hp} {p : Pl} {σ : L2.St} {ρ : Env} (h : IsE Z O H p σ ρ) : ∀ vs : List Nat, IsE Z O H p (L2.wipe σ vs) (wipeE ρ vs)
  | [] => h
  | v :: vs => (IsE.wipe h vs).unset
theorem wipe_set {i : Nat} {x : Option V} : ∀ {vs : List Nat} {σ : L2.St}, i ∈ vs → L2.wipe (σ.set i x) vs = L2.wipe σ vs
  | [], _, h => by cases h
  | v :: vs, σ, h => by
    by_cases c : i ∈ vs
    · unfold L2.wipe
      rw [wipe_set c]
    · have e : i = v := (List.mem_cons.mp h).resolve_right c
      subst e
      have comm : ∀ (ws : List Nat), i ∉ ws → L2.wipe (σ.set i x) ws = (L2.wipe σ ws).set i x := fun ws => by
        induction ws with
        | nil => intro _; rfl
        | cons w ws ih =>
          intro n
          unfold L2.wipe
          rw [ih fun z => n (List.mem_cons_of_mem _ z), List.set_comm _ _ fun z => n (by rw [z]; exact List.mem_cons_self)]
      unfold L2.wipe
      rw [comm vs c, List.set_set]
theorem wipe_put {σ : L2.St} : ∀ {vs : List Nat} {i : Nat}, i ∈ vs → (L2.wipe σ vs).set i none = L2.wipe σ vs
  | [], _, h => by cases h
  | v :: vs, i, h => by
    unfold L2.wipe
    by_cases c : v = i
    · subst c
      rw [List.set_set]
    · rw [List.set_comm _ _ c, wipe_put ((List.mem_cons.mp h).resolve_left fun z => c z.symm)]
theorem wipe_sub {σ : L2.St} {vs : List Nat} : ∀ ws : List Nat, (∀ w ∈ ws, w ∈ vs) → L2.wipe (L2.wipe σ vs) ws = L2.wipe σ vs
  | [], _ => rfl
  | w :: ws, h => by
    show (L2.wipe (L2.wipe σ vs) ws).set w none = L2.wipe σ vs
    rw [wipe_sub ws fun x m => h x (List.mem_cons_of_mem _ m), wipe_put (h w List.mem_cons_self)]
theorem wipe_wipe (σ : L2.St) (vs : List Nat) : L2.wipe (L2.wipe σ vs) vs = L2.wipe σ vs := wipe_sub vs fun _ h => h
def gN (i : Nat) (ρ : Env) (d : Dat) : Option Env := some (ρ.set i (some d))
def gT (n : Nat) (t : Env → List Dat → Option Env) (ρ : Env) (d : Dat) : Option Env := match d with
  | .tup ds => if ds.length = n then t ρ ds else none
  | _ => none
def gNl (ρ : Env) (ds : List Dat) : Option Env := match ds with
  | [] => some ρ
  | _ => none
def gCo (t : Env → Dat → Option Env) (u : Env → List Dat → Option Env) (ρ : Env) (ds : List Dat) : Option Env := match ds with
  | d :: r => (t ρ d).bind fun ρ' => u ρ' r
  | [] => none
section
variable {Z : Cz} {Er : ErW} {O : List Nat} {vs : Option (List Nat)} {te ta tb tc : TE} {tt tu : TT} {m m1 m2 m3 : Env → M Dat} {mb mc : Env → M Bool} {tl : TA} {ml : Env → M (List Dat)}
theorem jg_name {i : Nat} (n : i ∉ O) (hi : ∀ w, vs = some w → i ∈ w) : JG Z O (gName i) (gN i) vs := fun v σ H p ρ d R hE hv h => by
  obtain ⟨ρ', e, k⟩ := h
  cases e
  exact k _ (hE.set n hv) fun w e => wipe_set (hi w e)
theorem jg_nil : JGs Z O gNil gNl vs := fun v σ H p ρ d R hE hv h => by
  obtain ⟨ρ', e, k⟩ := h
  cases d with
  | nil =>
    cases e
    exact ⟨isDs_nil.mp hv, k _ hE fun _ _ => rfl⟩
  | cons _ _ => cases e
theorem jg_cons {t : TG} {u : TGs} {a : Env → Dat → Option Env} {b : Env → List Dat → Option Env} (h1 : JG Z O t a vs) (h2 : JGs Z O u b vs) : JGs Z O (gCons t u) (gCo a b) vs := fun v σ H p ρ d R hE hv h => by
  obtain ⟨ρ', e, k⟩ := h
  cases d with
  | nil => cases e
  | cons d r =>
    obtain ⟨x, xs, rfl, hx, hxs⟩ := isDs_cons.mp hv
    have e : (a ρ d).bind (fun ρ' => b ρ' r) = some ρ' := e
    cases q : a ρ d with
    | none => rw [q] at e; cases e
    | some ρ1 =>
      rw [q] at e
      exact ⟨x, xs, rfl, h1 x σ H p ρ d _ hE hx ⟨ρ1, q, fun σ1 hE1 w1 => h2 xs σ1 H p ρ1 r _ hE1 hxs ⟨ρ', e, fun σ2 hE2 w2 => k σ2 hE2 fun w ew => (w2 w ew).trans (w1 w ew)⟩⟩⟩
theorem jg_tup {n : Nat} {t : TGs} {u : Env → List Dat → Option Env} (h1 : JGs Z O t u vs) : JG Z O (gTup Z.K n t) (gT n u) vs := fun v σ H p ρ d R hE hv h => by
  obtain ⟨ρ', e, k⟩ := h
  cases d with
  | tup ds =>
    obtain ⟨a, xs, rfl, ha, hx⟩ := isD_tup.mp hv
    have e : (if ds.length = n then u ρ ds else none) = some ρ' := e
    by_cases c : ds.length = n
    · rw [if_pos c] at e
      exact ⟨a, xs, rfl, ha.sq, hx.len.trans c, h1 xs σ H p ρ ds R hE hx ⟨ρ', e, k⟩⟩
    · rw [if_neg c] at e
      cases e
  | _ => cases e
def FlowOk (Z : Cz) (O : List Nat) (D : Ends) (f : Flow) (H : Hp) (p : Pl) : Prop := match f with
  | .nx ρ => ∀ σ, IsE Z O H p σ ρ → D.nx σ H
  | .rt d => ∀ v, IsW Z H p v d → D.rt v H
  | .bk ρ => ∀ σ, IsE Z O H p σ ρ → D.bk σ H
  | .ct ρ => ∀ σ, IsE Z O H p σ ρ → D.ct σ H
def JS (Z : Cz) (Er : ErW) (O : List Nat) (ts : TS) (m : Env → M Flow) : Prop :=
  ∀ (σ : L2.St) (H : Hp) (p : Pl) (ρ : Env) (S : List Dat) (D : Ends), IsE Z O H p σ ρ → IsS Z H p S → Post Z Er Ext (m ρ S) H p (fun f _ H' p' => FlowOk Z O D f H' p') → ts D σ H
/-- behind an expression -/
theorem Post.bndE {α β : Type} {S : List Dat} {H : Hp} {p : Pl} {m : M α} {f : α → M β} {C : β → List Dat → Hp → Pl → Prop} (h : Post Z Er Ext ((m >>= f) S) H p C) : Post Z Er ExtE (m S) H p fun a S' H' p' => Post Z Er Ext (f a S') H' p' C := (h.bnd xS).of xS
def sNx (ρ : Env) : M Flow := pure (.nx ρ)
def sSeq (a b : Env → M Flow) (ρ : Env) : M Flow := a ρ >>= fun f => match f with
  | .nx ρ' => b ρ'
  | g => pure g
variable {ts tr : TS} {ms mr : Env → M Flow}
theorem js_next : JS Z Er O tNext sNx := fun σ H p ρ S D hE hS q => q.pure xS hS σ hE
theorem js_seq (h1 : JS Z Er O ts ms) (h2 : JS Z Er O tr mr) : JS Z Er O (tSeq ts tr) (sSeq ms mr) := fun σ H p ρ S D hE hS q =>
  h1 σ H p ρ S _ hE hS ((q.bnd xS).mono fun f S1 H1 p1 e1 s1 q1 => by
    cases f with
    | nx ρ1 => exact fun σ1 hE1 => h2 σ1 H1 p1 ρ1 S1 D hE1 s1 q1
    | rt d => exact Post.pure xS q1 s1
    | bk ρ1 => exact Post.pure xS q1 s1
    | ct ρ1 => exact Post.pure xS q1 s1)
def sAsg (a : Env → M Dat) (g : Env → Dat → Option Env) (ρ : Env) : M Flow := a ρ >>= fun d => M.opt (g ρ d) >>= fun ρ' => pure (.nx ρ')
theorem js_asg {g : TG} {gm : Env → Dat → Option Env} (ha : JD Z Er O ta m1) (hg : JG Z O g gm none) : JS Z Er O (tAsg ta g) (sAsg m1 gm) := fun σ H p ρ S D hE hS q =>
  ha σ H p ρ S _ hE hS (q.bndE.mono fun d S1 H1 p1 e1 s1 q1 v hv => by
    obtain ⟨ρ1, e, q2⟩ := q1.opt
    exact hg v σ H1 p1 ρ d _ (hE.ext e1 hS) hv ⟨ρ1, e, fun σ' hE' _ => q2.pure xS s1 σ' hE'⟩)
def sRet (a : Env → M Dat) (ρ : Env) : M Flow := a ρ >>= fun d => pure (.rt d)
theorem js_ret (ha : JW Z Er O ta m1) : JS Z Er O (tRet ta) (sRet m1) := fun σ H p ρ S D hE hS q =>
  ha σ H p ρ S _ hE hS (q.bndE.mono fun d S1 H1 p1 e1 s1 q1 v hv => q1.pure xS s1 v hv)
def sIf (c : Env → M Bool) (a b : Env → M Flow) (ρ : Env) : M Flow := c ρ >>= fun x => if x = true then a ρ else b ρ
theorem js_if (hc : JB Z Er O tt mb) (h1 : JS Z Er O ts ms) (h2 : JS Z Er O tr mr) : JS Z Er O (tIfS tt ts tr) (sIf mb ms mr) := fun σ H p ρ S D hE hS q =>
  hc σ H p ρ S _ hE hS (q.bndE.mono fun b S1 H1 p1 e1 s1 q1 c hc => by
    subst hc
    cases c with
    | true => exact h1 σ H1 p1 ρ S1 D (hE.ext e1 hS) s1 q1
    | false => exact h2 σ H1 p1 ρ S1 D (hE.ext e1 hS) s1 q1)
def sNo (_ : Env) : M Flow := M.no
theorem js_never : JS Z Er O tNever sNo := fun σ H p ρ S D hE hS q => (show False from q)
def sPar (i j : Nat) (l : Env → M (List Dat)) (ρ : Env) : M Flow := l ρ >>= fun ds => match ds with
  | [a, b] => pure (.nx ((ρ.set i (some a)).set j (some b)))
  | _ => M.no
theorem js_par {i j : Nat} (ni : i ∉ O) (nj : j ∉ O) (hl : JA Z Er O tl ml) : JS Z Er O (tPar i j tl) (sPar i j ml) := fun σ H p ρ S D hE hS q =>
  hl σ H p ρ S _ hE hS (q.bndE.mono fun ds S1 H1 p1 e1 s1 q1 vs hv => by
    match ds, hv, q1 with
    | [a, b], hv, q1 =>
      obtain ⟨x, r, rfl, hx, hr⟩ := isDs_cons.mp hv
      obtain ⟨y, r2, rfl, hy, hr2⟩ := isDs_cons.mp hr
      rw [isDs_nil.mp hr2]
      exact ⟨x, y, rfl, q1.pure xS s1 _ (((hE.ext e1 hS).set ni hx).set nj hy)⟩
    | [], _, q1 => exact (show False from q1).elim
    | [_], _, q1 => exact (show False from q1).elim
    | _ :: _ :: _ :: _, _, q1 => exact (show False from q1).elim)
def sPar3 (i j k : Nat) (l : Env → M (List Dat)) (ρ : Env) : M Flow := l ρ >>= fun ds => match ds with
  | [a, b, c] => pure (.nx (((ρ.set i (some a)).set j (some b)).set k (some c)))
  | _ => M.no
/-- from (H0, p0) on, along X, the walk J gives the items ds, one after another -/
def Walks (Z : Cz) (X : XR) (Jt : It) (ds : List Dat) (H0 : Hp) (p0 : Pl) : Prop := ∀ H p S (i : Nat), X H0 p0 H p → IsS Z H p S →
  (i < ds.length → Jt.go i H ∧ ∀ x H', Jt.yld i H x H' → Same H H' ∧ ∃ d, ds[i]? = some d ∧ IsD Z H' p x d) ∧ (ds.length = i → Jt.stop i H)
def JI (Z : Cz) (Er : ErW) (O : List Nat) (X : XR) (wi : TI) (m : Env → M (List Dat)) : Prop :=
  ∀ (σ : L2.St) (H : Hp) (p : Pl) (ρ : Env) (S : List Dat) (R : It → Hp → Prop), IsE Z O H p σ ρ → IsS Z H p S → Post Z Er ExtE (m ρ S) H p (fun ds _ H' p' => ∀ Jt, Walks Z X Jt ds H' p' → R Jt H') → wi σ H R
def dLst : Dat → Option (List Dat)
  | .lst ds => some ds
  | _ => none
def dTup : Dat → Option (List Dat)
  | .tup ds => some ds
  | _ => none
theorem dLst_some {d : Dat} {ds : List Dat} (h : dLst d = some ds) : d = .lst ds := by
  cases d <;> first | (cases h; rfl) | cases h
theorem dTup_some {d : Dat} {ds : List Dat} (h : dTup d = some ds) : d = .tup ds := by
  cases d <;> first | (cases h; rfl) | cases h
def iLst (a : Env → M Dat) (ρ : Env) : M (List Dat) := a ρ >>= fun d => M.opt (dLst d)
def iTp (a : Env → M Dat) (ρ : Env) : M (List Dat) := a ρ >>= fun d => M.opt (dTup d)
theorem walks_list {X : XR} (x : XOk X) {H : Hp} {p : Pl} {a : Addr} {xs : List V} {ds : List Dat} (h : LstAt Z H p a xs) (hd : IsDs Z H p xs ds) : Walks Z X (Itl Z.K a) ds H p := fun H1 p1 S1 i e s => by
  have h1 := (h.ext (x.s e)).sq
  have hd1 := hd.ext (x.s e)
  refine ⟨fun lt => ?_, fun le => ⟨xs, h1, by rw [hd.len]; exact Nat.le_of_eq le⟩⟩
  have hi := List.getElem?_eq_getElem lt
  obtain ⟨v, g1, g2⟩ := hd1.get hi
  refine ⟨⟨xs, v, h1, g1⟩, fun y H' ⟨eq, k⟩ => ?_⟩
  subst eq
  have := k xs h1
  rw [g1] at this
  cases this
  exact ⟨Same.refl _, _, hi, g2⟩
theorem walks_tup {X : XR} (x : XOk X) {H : Hp} {p : Pl} {a : Addr} {xs : List V} {ds : List Dat} (h : TupAt Z H p a xs) (hd : IsDs Z H p xs ds) : Walks Z X (Itt Z.K a) ds H p := fun H1 p1 S1 i e s => by
  have h1 := (h.ext (x.s e)).sq
  have hd1 := hd.ext (x.s e)
  refine ⟨fun lt => ?_, fun le => ⟨xs, h1, by rw [hd.len]; exact Nat.le_of_eq le⟩⟩
  have hi := List.getElem?_eq_getElem lt
  obtain ⟨v, g1, g2⟩ := hd1.get hi
  refine ⟨⟨xs, v, h1, g1⟩, fun y H' ⟨eq, k⟩ => ?_⟩
  subst eq
  have := k xs h1
  rw [g1] at this
  cases this
  exact ⟨Same.refl _, _, hi, g2⟩
theorem ji_list {X : XR} (x : XOk X) (ha : JD Z Er O ta m1) : JI Z Er O X (iList Z.K ta) (iLst m1) := fun σ H p ρ S R hE hS q =>
  ha σ H p ρ S _ hE hS ((q.bnd xE).mono fun d S1 H1 p1 e1 s1 q1 v hv => by
    obtain ⟨ds, e, k⟩ := opt_pure xE q1 s1
    rw [dLst_some e] at hv
    obtain ⟨a, xs, rfl, h1, h2⟩ := isD_lst.mp hv
    exact ⟨a, rfl, ⟨xs, h1.sq⟩, k _ (walks_list x h1 h2)⟩)
theorem ji_tup {X : XR} (x : XOk X) (ha : JD Z Er O ta m1) : JI Z Er O X (iTup Z.K ta) (iTp m1) := fun σ H p ρ S R hE hS q =>
  ha σ H p ρ S _ hE hS ((q.bnd xE).mono fun d S1 H1 p1 e1 s1 q1 v hv => by
    obtain ⟨ds, e, k⟩ := opt_pure xE q1 s1
    rw [dTup_some e] at hv
    obtain ⟨a, xs, rfl, h1, h2⟩ := isD_tup.mp hv
    exact ⟨a, rfl, ⟨xs, h1.sq⟩, k _ (walks_tup x h1 h2)⟩)
/-- lo, lo + 1, .. -/
def intsD (lo : Int) (n : Nat) : List Dat := (List.range n).map fun (k : Nat) => Dat.int (lo + k)
theorem walks_rng {X : XR} {H : Hp} {p : Pl} {lo : Int} {n : Nat} : Walks Z X (Itr lo n) (intsD lo n) H p := fun H1 p1 S1 i e s => by
  unfold intsD
  rw [List.length_map, List.length_range]
  refine ⟨fun lt => ⟨lt, fun y H' ⟨eq, k⟩ => ?_⟩, fun le => Nat.le_of_eq le⟩
  subst eq k
  refine ⟨Same.refl _, _, ?_, isD_int.mpr rfl⟩
  rw [List.getElem?_map, List.getElem?_range lt]
  rfl
theorem ji_rng1 {X : XR} (hl : JA Z Er O tl ml) : JI Z Er O X (iRng1 tl) (fun ρ => ml ρ >>= fun ds => match ds with
    | [.int j] => M.need (decide (-(2 ^ 62) ≤ j ∧ j < 2 ^ 62)) >>= fun _ => pure (intsD 0 j.toNat)
    | _ => M.no) := fun σ H p ρ S R hE hS q =>
  hl σ H p ρ S _ hE hS ((q.bnd xE).mono fun ds S1 H1 p1 e1 s1 q1 vs hv => by
    split at q1
    · rename_i j
      obtain ⟨c, q2⟩ := q1.need
      obtain ⟨x, r, rfl, hx, hr⟩ := isDs_cons.mp hv
      rw [isDs_nil.mp hr, isD_int.mp hx]
      have c := of_decide_eq_true c
      exact ⟨j, rfl, c.1, c.2, q2.pure xE s1 _ walks_rng⟩
    · exact (show False from q1).elim)
def forD (g : Env → Dat → Option Env) (b : Env → M Flow) : List Dat → Env → M Flow
  | [], ρ => pure (.nx ρ)
  | d :: ds, ρ => M.opt (g ρ d) >>= fun ρ1 => b ρ1 >>= fun f => match f with
    | .nx ρ2 => forD g b ds ρ2
    | .ct ρ2 => forD g b ds ρ2
    | .bk ρ2 => pure (.nx ρ2)
    | .rt d => pure (.rt d)
def sFor (it : Env → M (List Dat)) (g : Env → Dat → Option Env) (b : Env → M Flow) (ρ : Env) : M Flow := it ρ >>= fun ds => forD g b ds ρ
theorem drop_cons {α : Type} {l : List α} {i : Nat} (h : i < l.length) : l.drop i = l[i] :: l.drop (i + 1) := List.drop_eq_getElem_cons h
theorem js_for {wi : TI} {it : Env → M (List Dat)} {g : TG} {gm : Env → Dat → Option Env} (hi : JI Z Er O Ext wi it) (hg : JG Z O g gm none) (hb : JS Z Er O ts ms) : JS Z Er O (tFor wi g ts) (sFor it gm ms) := fun σ H p ρ S D hE hS q =>
  hi σ H p ρ S _ hE hS (q.bndE.mono fun ds S1 H1 p1 e1 s1 q1 Jt hJ => by
    refine ⟨fun i n σ' H' => n = ds.length - i ∧ i ≤ ds.length ∧ ∃ p' ρ' S', Ext H1 p1 H' p' ∧ IsE Z O H' p' σ' ρ' ∧ IsS Z H' p' S' ∧ Post Z Er Ext (forD gm ms (ds.drop i) ρ' S') H' p' (fun f _ H' p' => FlowOk Z O D f H' p'),
      ⟨_, rfl, Nat.zero_le _, p1, ρ, S1, Ext.refl, hE.ext e1 hS, s1, q1⟩, ?_⟩
    rintro i n σ' H' ⟨rfl, le, p', ρ', S', ex, hE', hS', q'⟩
    by_cases lt : i < ds.length
    · have W := (hJ H' p' S' i ex hS').1 lt
      refine .inr ⟨W.1, fun σ2 H2 => ∃ p2 ρ2 S2, Ext H1 p1 H2 p2 ∧ IsE Z O H2 p2 σ2 ρ2 ∧ IsS Z H2 p2 S2 ∧ Post Z Er Ext (forD gm ms (ds.drop (i + 1)) ρ2 S2) H2 p2 (fun f _ H' p' => FlowOk Z O D f H' p'),
        fun σ2 H2 ⟨p2, ρ2, S2, a, b, c, d⟩ => ⟨_, by omega, rfl, lt, p2, ρ2, S2, a, b, c, d⟩, fun x Hx y => ?_⟩
      obtain ⟨sm, d, ed, hd⟩ := W.2 x Hx y
      have ed' : ds[i] = d := by
        rw [List.getElem?_eq_getElem lt] at ed
        exact Option.some.inj ed
      rw [drop_cons lt, ed'] at q'
      have eN : ExtE H' p' Hx p' := ExtE.same sm
      have q2 : Post Z Er Ext (forD gm ms (d :: ds.drop (i + 1)) ρ' S') Hx p' (fun f _ H' p' => FlowOk Z O D f H' p') := by
        unfold Post at q' ⊢
        cases z : forD gm ms (d :: ds.drop (i + 1)) ρ' S' with
        | ok a S2 => rw [z] at q'; exact fun H3 p3 e3 s3 => q' H3 p3 (eN.s.trans e3) s3
        | er a b S2 => rw [z] at q'; exact fun H3 p3 e3 s3 => q' H3 p3 (eN.s.trans e3) s3
        | bad => rw [z] at q'; exact q'
      obtain ⟨ρ1, e, q3⟩ := q2.opt
      refine hg x σ' Hx p' ρ' d _ (hE'.ext eN hS') hd ⟨ρ1, e, fun σ1 hE1 _ => hb σ1 Hx p' ρ1 S' _ hE1 (hS'.ext sm) ((q3.bnd xS).mono fun f S2 H2 p2 e2 s2 q4 => ?_)⟩
      have exx := (ex.trans eN.s).trans e2
      cases f with
      | nx ρ2 => exact fun σ2 hE2 => ⟨p2, ρ2, S2, exx, hE2, s2, q4⟩
      | ct ρ2 => exact fun σ2 hE2 => ⟨p2, ρ2, S2, exx, hE2, s2, q4⟩
      | bk ρ2 => exact fun σ2 hE2 => Post.pure xS q4 s2 σ2 hE2
      | rt d2 => exact fun v hv => Post.pure xS q4 s2 v hv
    · have e : i = ds.length := by omega
      subst e
      rw [List.drop_length] at q'
      exact .inl ⟨(hJ H' p' S' _ ex hS').2 rfl, Post.pure xS q' hS' σ' hE'⟩)
def compD (g : Env → Dat → Option Env) (c : Env → M Bool) (e : Env → M Dat) (ρ : Env) : List Dat → M (List Dat)
  | [] => pure []
  | d :: ds => M.opt (g ρ d) >>= fun ρ1 => c ρ1 >>= fun b => if b = true then e ρ1 >>= fun x => compD g c e ρ ds >>= fun xs => pure (x :: xs) else compD g c e ρ ds
def xLc (it : Env → M (List Dat)) (g : Env → Dat → Option Env) (c : Env → M Bool) (e : Env → M Dat) (vs : List Nat) (ρ : Env) : M Dat :=
  it ρ >>= fun ds => M.need (decide (ds.length ≤ 100000)) >>= fun _ => compD g c e (wipeE ρ vs) ds >>= fun es => pure (.lst es)
theorem Post.up {α : Type} {o : Out α} {H : Hp} {p : Pl} {C : α → List Dat → Hp → Pl → Prop} {X : XR} (x : XOk X) (q : Post Z Er X o H p C) {H' : Hp} {p' : Pl} (e : X H p H' p') : Post Z Er X o H' p' C := by
  unfold Post at q ⊢
  cases o with
  | ok a S2 => exact fun H3 p3 e3 s3 => q H3 p3 (x.trans e e3) s3
  | er a b S2 => exact fun H3 p3 e3 s3 => q H3 p3 (x.trans e e3) s3
  | bad => exact q
/-- as in an expression, but for new own places -/
structure ExtC (H : Hp) (p : Pl) (H' : Hp) (p' : Pl) : Prop where
  α : ∃ β, p'.α = p.α ++ β ∧ ∀ b ∈ β, H b = none
  ω : ∃ β, p'.ω = p.ω ++ β ∧ ∀ b ∈ β, H b = none
  γ : p'.γ = p.γ
  k : ∀ a o, H a = some o → a ∉ p.α → H' a = some o
  t : ∀ a, H a ≠ none → H' a ≠ none
theorem ExtC.s {H H' : Hp} {p p' : Pl} (e : ExtC H p H' p') : Ext H p H' p' := ⟨e.α, e.ω, e.γ, fun a o h n _ => e.k a o h n, e.t⟩
theorem ExtE.c {H H' : Hp} {p p' : Pl} (e : ExtE H p H' p') : ExtC H p H' p' := ⟨e.α, ⟨[], by rw [e.ω, List.append_nil], by simp⟩, e.γ, e.k, e.t⟩
theorem xCo : XOk ExtC := ⟨ExtE.refl.c, fun e f => ⟨fresh_app e.t e.α f.α, fresh_app e.t e.ω f.ω, f.γ.trans e.γ, fun a o h n => f.k a o (e.k a o h n) (not_fresh e.α h n), fun a h => f.t a (e.t a h)⟩, ExtE.c, ExtC.s⟩
mutual
theorem IsD.mv {H : Hp} {p p' : Pl} (e : ∀ (n : Nat) (x : Addr), p.α[n]? = some x → p'.α[n]? = some x) (l : ∀ a, p'.has a → p.has a) : ∀ (d : Dat) {v : V}, IsD Z H p v d → IsD Z H p' v d
  | .non, _, h => by unfold IsD at h ⊢; exact h
  | .bl b, _, h => by unfold IsD at h ⊢; exact h
  | .int i, _, h => by unfold IsD at h ⊢; exact h
  | .str x, _, h => by unfold IsD at h ⊢; exact h
  | .ty n, _, h => by unfold IsD at h ⊢; exact h
  | .cls c, _, h => by unfold IsD at h ⊢; exact h
  | .scr ns, _, h => by
    obtain ⟨a, rfl, h1⟩ := isD_scr.mp h
    exact isD_scr.mpr ⟨a, rfl, h1.imp (fun q => ⟨q.1, fun z => q.2 (l a z)⟩) id⟩
  | .tup ds, _, h => by
    obtain ⟨a, vs, rfl, h1, h2⟩ := isD_tup.mp h
    exact isD_tup.mpr ⟨a, vs, rfl, h1.imp (fun q => ⟨q.1, fun z => q.2 (l a z)⟩) id, IsDs.mv e l ds h2⟩
  | .lst ds, _, h => by
    obtain ⟨a, vs, rfl, h1, h2⟩ := isD_lst.mp h
    exact isD_lst.mpr ⟨a, vs, rfl, ⟨h1.1, fun z => h1.2 (l a z)⟩, IsDs.mv e l ds h2⟩
  | .dic ks ds, _, h => by
    obtain ⟨a, vs, rfl, h1, hl, h2⟩ := isD_dic.mp h
    exact isD_dic.mpr ⟨a, vs, rfl, ⟨h1.1, fun z => h1.2 (l a z)⟩, hl, IsDs.mv e l ds h2⟩
  | .obj c fs ds, _, h => by
    obtain ⟨a, vs, rfl, h1, hl, h2⟩ := isD_obj.mp h
    exact isD_obj.mpr ⟨a, vs, rfl, ⟨h1.1, fun z => h1.2 (l a z)⟩, hl, IsDs.mv e l ds h2⟩
  | .loc n, _, h => by
    obtain ⟨a, rfl, h1⟩ := isD_loc.mp h
    exact isD_loc.mpr ⟨a, rfl, e _ _ h1⟩
theorem IsDs.mv {H : Hp} {p p' : Pl} (e : ∀ (n : Nat) (x : Addr), p.α[n]? = some x → p'.α[n]? = some x) (l : ∀ a, p'.has a → p.has a) : ∀ (ds : List Dat) {vs : List V}, IsDs Z H p vs ds → IsDs Z H p' vs ds
  | [], _, h => isDs_nil.mpr (isDs_nil.mp h)
  | d :: ds, _, h => by
    obtain ⟨v, r, rfl, h1, h2⟩ := isDs_cons.mp h
    exact isDs_cons.mpr ⟨v, r, rfl, IsD.mv e l d h1, IsDs.mv e l ds h2⟩
end
theorem IsD.less {H : Hp} {p p' : Pl} (e : p'.α = p.α) (l : ∀ a, p'.has a → p.has a) (d : Dat) {v : V} (h : IsD Z H p v d) : IsD Z H p' v d := IsD.mv (fun _ _ q => by rw [e]; exact q) l d h
theorem IsDs.less {H : Hp} {p p' : Pl} (e : p'.α = p.α) (l : ∀ a, p'.has a → p.has a) (ds : List Dat) {vs : List V} (h : IsDs Z H p vs ds) : IsDs Z H p' vs ds := IsDs.mv (fun _ _ q => by rw [e]; exact q) l ds h
theorem IsTop.mv {H : Hp} {p p' : Pl} (e : ∀ (n : Nat) (x : Addr), p.α[n]? = some x → p'.α[n]? = some x) (l : ∀ a, p'.has a → p.has a) {a : Addr} {d : Dat} (h : IsTop Z H p a d) : IsTop Z H p' a d := by
  cases d with
  | lst ds => obtain ⟨vs, e1, h1⟩ := h; exact ⟨vs, e1, IsDs.mv e l _ h1⟩
  | dic ks ds => obtain ⟨vs, e1, n, h1⟩ := h; exact ⟨vs, e1, n, IsDs.mv e l _ h1⟩
  | obj c fs ds => obtain ⟨dx, vs, e1, n, h1⟩ := h; exact ⟨dx, vs, e1, n, IsDs.mv e l _ h1⟩
  | _ => exact h.elim
theorem IsTop.less {H : Hp} {p p' : Pl} (e : p'.α = p.α) (l : ∀ a, p'.has a → p.has a) {a : Addr} {d : Dat} (h : IsTop Z H p a d) : IsTop Z H p' a d := by
  cases d with
  | lst ds => obtain ⟨vs, e1, h1⟩ := h; exact ⟨vs, e1, IsDs.less e l _ h1⟩
  | dic ks ds => obtain ⟨vs, e1, n, h1⟩ := h; exact ⟨vs, e1, n, IsDs.less e l _ h1⟩
  | obj c fs ds => obtain ⟨dx, vs, e1, n, h1⟩ := h; exact ⟨dx, vs, e1, n, IsDs.less e l _ h1⟩
  | _ => exact h.elim
/-- fewer own places -/
theorem IsS.less {H : Hp} {p : Pl} {S : List Dat} (s : IsS Z H p S) {ω : List Addr} (l : ∀ a ∈ ω, a ∈ p.ω) : IsS Z H ⟨p.α, ω, p.γ⟩ S :=
  have l2 : ∀ a, (⟨p.α, ω, p.γ⟩ : Pl).has a → p.has a := fun a h => h.imp id fun h => h.imp (l a) id
  ⟨s.len, s.nd, fun a h => s.dj a (l a h), s.dg, fun a h => s.wt a (h.imp (l a) id), fun n a d h1 h2 => IsTop.less (p := p) (p' := ⟨p.α, ω, p.γ⟩) rfl l2 (s.at_ n a d h1 h2)⟩
/-- a new own place -/
theorem ExtC.plus {H H1 : Hp} {p : Pl} {D : Addr} {α' : List Addr} (e : ExtE H p H1 ⟨α', p.ω, p.γ⟩) (nD : H D = none) : ExtC H p H1 ⟨α', p.ω ++ [D], p.γ⟩ :=
  ⟨e.α, ⟨[D], rfl, fun b h => by rw [List.mem_singleton.mp h]; exact nD⟩, rfl, e.k, e.t⟩
theorem Post.plus {α : Type} {o : Out α} {H : Hp} {p : Pl} {C : α → List Dat → Hp → Pl → Prop} (q : Post Z Er ExtE o H p C) {D : Addr} : Post Z Er ExtE o H ⟨p.α, p.ω ++ [D], p.γ⟩ (fun a S' H' p' => C a S' H' ⟨p'.α, p.ω, p'.γ⟩) := by
  have key : ∀ H' p' S', ExtE H ⟨p.α, p.ω ++ [D], p.γ⟩ H' p' → IsS Z H' p' S' → ExtE H p H' ⟨p'.α, p.ω, p'.γ⟩ ∧ IsS Z H' ⟨p'.α, p.ω, p'.γ⟩ S' := fun H' p' S' e s =>
    ⟨⟨e.α, rfl, e.γ, e.k, e.t⟩, s.less fun a h => by rw [e.ω]; exact List.mem_append_left _ h⟩
  unfold Post at q ⊢
  cases o with
  | ok a S2 => exact fun H' p' e s => q H' ⟨p'.α, p.ω, p'.γ⟩ (key H' p' S2 e s).1 (key H' p' S2 e s).2
  | er a b S2 => exact fun H' p' e s => q H' ⟨p'.α, p.ω, p'.γ⟩ (key H' p' S2 e s).1 (key H' p' S2 e s).2
  | bad => exact q
/-- the own place D is written, which no slot has -/
theorem IsE.put {H : Hp} {p : Pl} {σ : L2.St} {ρ : Env} (h : IsE Z O H p σ ρ) {D : Addr} {o : HO} (hD : D ∈ p.ω) (n : ∀ i ∈ O, σ[i]? ≠ some (some (.ref D))) : IsE Z O (L2.upd H D o) p σ ρ := by
  have e : Ext H p (L2.upd H D o) p := ⟨⟨[], by simp⟩, ⟨[], by simp⟩, rfl, fun a u e n1 n2 => by rw [upd_ne fun z => n2 (by rw [z]; exact hD)]; exact e, fun a na => by
    by_cases c : a = D
    · rw [c, upd_same]; exact nofun
    · rw [upd_ne c]; exact na⟩
  refine ⟨h.len, fun i d ni q => ?_, fun i d oi q => ?_, h.dj⟩
  · obtain ⟨v, h1, h2⟩ := h.get i d ni q
    exact ⟨v, h1, h2.ext e⟩
  · obtain ⟨a, h1, h2, h3⟩ := h.own i d oi q
    exact ⟨a, h1, h2, h3.ext e fun u z => by rw [upd_ne fun c => n i oi (by rw [← c]; exact h1)]; exact z⟩
theorem IsS.put {H : Hp} {p : Pl} {S : List Dat} (s : IsS Z H p S) {D : Addr} {o : HO} (hD : D ∈ p.ω) : IsS Z (L2.upd H D o) p S := by
  have e : Ext H p (L2.upd H D o) p := ⟨⟨[], by simp⟩, ⟨[], by simp⟩, rfl, fun a u e n1 n2 => by rw [upd_ne fun z => n2 (by rw [z]; exact hD)]; exact e, fun a na => by
    by_cases c : a = D
    · rw [c, upd_same]; exact nofun
    · rw [upd_ne c]; exact na⟩
  exact ⟨s.len, s.nd, s.dj, s.dg, fun a h => e.t a (s.wt a h), fun n a d h1 h2 => (s.at_ n a d h1 h2).ext e fun u z => by rw [upd_ne fun c => (s.dj D hD).1 (by rw [← c]; exact List.mem_of_getElem? h1)]; exact z⟩
theorem ext_put {H : Hp} {p : Pl} {D : Addr} {o : HO} (hD : D ∈ p.ω) : Ext H p (L2.upd H D o) p := ⟨⟨[], by simp⟩, ⟨[], by simp⟩, rfl, fun a u e n1 n2 => by rw [upd_ne fun z => n2 (by rw [z]; exact hD)]; exact e, fun a na => by
    by_cases c : a = D
    · rw [c, upd_same]; exact nofun
    · rw [upd_ne c]; exact na⟩
/-- a new own place comes into being -/
theorem own_new {H : Hp} {p : Pl} {S : List Dat} {σ : L2.St} {ρ : Env} (hE : IsE Z O H p σ ρ) (hS : IsS Z H p S) {D : Addr} {o : HO} (nD : H D = none) : IsE Z O (L2.upd H D o) ⟨p.α, p.ω ++ [D], p.γ⟩ σ ρ ∧ IsS Z (L2.upd H D o) ⟨p.α, p.ω ++ [D], p.γ⟩ S := by
  have e : Ext H p (L2.upd H D o) ⟨p.α, p.ω ++ [D], p.γ⟩ := (ExtC.plus (ExtE.new nD) nD).s
  have hD := no_has hS nD
  refine ⟨⟨hE.len, fun i d ni q => ?_, fun i d oi q => ?_, hE.dj⟩, ⟨hS.len, hS.nd, fun a h => ?_, hS.dg, fun a h => ?_, fun n a d h1 h2 => ?_⟩⟩
  · obtain ⟨v, h1, h2⟩ := hE.get i d ni q
    exact ⟨v, h1, h2.ext e⟩
  · obtain ⟨a, h1, h2, h3⟩ := hE.own i d oi q
    exact ⟨a, h1, List.mem_append_left _ h2, h3.ext e fun u z => (upd_ne (ne_of_none z nD)).trans z⟩
  · rcases List.mem_append.mp h with h | h
    · exact hS.dj a h
    · rw [List.mem_singleton.mp h]
      exact ⟨fun z => hD (.inl z), fun z => hD (.inr (.inr z))⟩
  · rcases h with h | h
    · rcases List.mem_append.mp h with h | h
      · exact e.t a (hS.wt a (.inl h))
      · rw [List.mem_singleton.mp h, upd_same]
        exact nofun
    · exact e.t a (hS.wt a (.inr h))
  · exact (hS.at_ n a d h1 h2).ext e fun u z => (upd_ne (ne_of_none z nD)).trans z
theorem jf_lc {wi : TI} {it : Env → M (List Dat)} {g : TG} {gm : Env → Dat → Option Env} {vs : List Nat} (hi : JI Z Er O ExtC wi it) (hg : JG Z O g gm (some vs)) (hc : JB Z Er O tt mb) (he : JD Z Er O te m) : JF Z Er O (tLc wi g tt te vs) (xLc it gm mb m vs) := fun σ H p ρ S Q hE hS q =>
  hi σ H p ρ S _ hE hS ((q.bnd xE).mono fun ds S1 H1 p1 e1 s1 q1 Jt hJ => by
    obtain ⟨few, q2⟩ := q1.need
    have few : ds.length ≤ 100000 := of_decide_eq_true few
    have sz := sizeLine_eq
    intro D nD
    have hE1 := hE.ext e1 hS
    have noD : ∀ i ∈ O, σ[i]? ≠ some (some (.ref D)) ∨ ρ[i]? = none ∨ ρ[i]? = some none := fun i oi => by
      cases z : ρ[i]? with
      | none => exact .inr (.inl rfl)
      | some w =>
        cases w with
        | none => exact .inr (.inr rfl)
        | some d =>
          left
          obtain ⟨a, h1, h2, h3⟩ := hE1.own i d oi z
          rw [h1]
          intro c
          cases c
          exact s1.wt D (.inl h2) nD
    refine ⟨fun i n H' => n = ds.length - i ∧ i ≤ ds.length ∧ ∃ α' S' acc es, IsE Z O H' ⟨α', p1.ω ++ [D], p1.γ⟩ σ ρ ∧ IsS Z H' ⟨α', p1.ω ++ [D], p1.γ⟩ S' ∧ H' D = some (.lst acc) ∧ acc.length ≤ i ∧ IsDs Z H' ⟨α', p1.ω ++ [D], p1.γ⟩ acc es ∧ ExtE H1 p1 H' ⟨α', p1.ω, p1.γ⟩ ∧
        Post Z Er ExtE (compD gm mb m (wipeE ρ vs) (ds.drop i) S') H1 p1 (fun xs S'' H'' p'' => ∀ ws, H'' D = some (.lst ws) → ¬ p''.has D → IsS Z H'' ⟨p''.α, p''.ω ++ [D], p''.γ⟩ S'' → IsDs Z H'' ⟨p''.α, p''.ω ++ [D], p''.γ⟩ ws (es ++ xs) → Q (.ref D) H''), ?_, ?_⟩
    · obtain ⟨hE2, hS2⟩ := own_new (o := .lst []) hE1 s1 nD
      refine ⟨_, rfl, Nat.zero_le _, p1.α, S1, [], [], hE2, hS2, upd_same, Nat.le_refl _, isDs_nil.mpr rfl, ExtE.new nD, ?_⟩
      refine (q2.bnd xE).mono fun xs S'' H'' p'' e s q ws hD nh hs hws => ?_
      exact q.pure xE s D (back_of e1.t nD) (by rw [hD]; exact nofun) nh hs ⟨ws, hD, hws⟩
    · rintro i n H' ⟨rfl, le, α', S', acc, es, hE', hS', hD, la, hacc, ex, q'⟩
      have mD : D ∈ p1.ω ++ [D] := List.mem_append_right _ (List.mem_singleton.mpr rfl)
      have exC : ExtC H1 p1 H' ⟨α', p1.ω ++ [D], p1.γ⟩ := ExtC.plus ex nD
      by_cases lt : i < ds.length
      · have W := (hJ H' _ S' i exC hS').1 lt
        refine .inr ⟨W.1, fun H2 => ∃ α' S' acc es, IsE Z O H2 ⟨α', p1.ω ++ [D], p1.γ⟩ σ ρ ∧ IsS Z H2 ⟨α', p1.ω ++ [D], p1.γ⟩ S' ∧ H2 D = some (.lst acc) ∧ acc.length ≤ i + 1 ∧ IsDs Z H2 ⟨α', p1.ω ++ [D], p1.γ⟩ acc es ∧ ExtE H1 p1 H2 ⟨α', p1.ω, p1.γ⟩ ∧
            Post Z Er ExtE (compD gm mb m (wipeE ρ vs) (ds.drop (i + 1)) S') H1 p1 (fun xs S'' H'' p'' => ∀ ws, H'' D = some (.lst ws) → ¬ p''.has D → IsS Z H'' ⟨p''.α, p''.ω ++ [D], p''.γ⟩ S'' → IsDs Z H'' ⟨p''.α, p''.ω ++ [D], p''.γ⟩ ws (es ++ xs) → Q (.ref D) H''),
          fun H2 ⟨a, b, c, d, r⟩ => ⟨_, by omega, rfl, lt, a, b, c, d, r⟩, fun x Hx y => ?_⟩
        obtain ⟨sm, d, ed, hd⟩ := W.2 x Hx y
        have ed' : ds[i] = d := by
          rw [List.getElem?_eq_getElem lt] at ed
          exact Option.some.inj ed
        rw [drop_cons lt, ed'] at q'
        have eN : ∀ p, ExtE H' p Hx p := fun p => ExtE.same sm
        obtain ⟨ρ1, e, q3⟩ := q'.opt
        have hEx := hE'.ext (eN _) hS'
        refine hg x _ Hx _ _ d _ (hEx.wipe vs) hd ⟨ρ1, e, fun σ1 hE1' wi => ⟨(wi vs rfl).trans (wipe_wipe σ vs), ?_⟩⟩
        refine hc σ1 Hx _ ρ1 S' _ hE1' (hS'.ext sm) ((q3.bndK.up xE (ex.trans (eN _))).plus.mono fun b S2 H2 p2 e2 s2 q4 c hcb => ?_)
        subst hcb
        have ex2 : ExtE H1 p1 H2 ⟨p2.α, p1.ω, p1.γ⟩ := by
          have z := (ex.trans (eN _))
          refine z.trans ⟨e2.α, rfl, rfl, e2.k, e2.t⟩
        have ep2 : p2 = ⟨p2.α, p1.ω ++ [D], p1.γ⟩ := by
          have h1 := e2.ω
          have h2 := e2.γ
          cases p2
          cases h1
          cases h2
          rfl
        have nDα : D ∉ p2.α := (s2.dj D (by rw [e2.ω]; exact mD)).1
        have eH2 : ExtE H' ⟨α', p1.ω ++ [D], p1.γ⟩ H2 p2 := (eN _).trans e2
        have hE2 : IsE Z O H2 p2 σ ρ := hE'.ext eH2 hS'
        have hD2 : H2 D = some (.lst acc) := eH2.k D _ hD (hS'.dj D mD).1
        have hacc2 := hacc.ext eH2.s
        cases c with
        | true =>
          show te σ1 H2 _
          have q5 : Post Z Er ExtE ((m ρ1 >>= fun x => compD gm mb m (wipeE ρ vs) (ds.drop (i + 1)) >>= fun xs => pure (x :: xs)) S2) H1 p1 _ := q4
          have q6 := (q5.bndK.up xE ex2).plus (D := D)
          have e23 : (⟨p2.α, p1.ω ++ [D], p1.γ⟩ : Pl) = p2 := by rw [ep2]
          rw [e23] at q6
          refine he σ1 H2 p2 ρ1 S2 _ (hE1'.ext e2 (hS'.ext sm)) s2 (q6.mono fun x3 S3 H3 p3 e3 s3 q7 v hv => ?_)
          have ep3 : p3 = ⟨p3.α, p1.ω ++ [D], p1.γ⟩ := by
            have h1 := e3.ω
            have h2 := e3.γ
            rw [ep2] at h1 h2
            cases p3
            cases h1
            cases h2
            rfl
          have mD3 : D ∈ p3.ω := by rw [ep3]; exact mD
          have hD3 : H3 D = some (.lst acc) := e3.k D _ hD2 nDα
          have hacc3 := hacc2.ext e3.s
          have hE3 := hE2.ext e3 s2
          have noO : ∀ (i : Nat) (d : Dat), i ∈ O → ρ[i]? = some (some d) → σ[i]? ≠ some (some (.ref D)) := fun i d oi z => by
            rcases noD i oi with h | h | h
            · exact h
            · rw [h] at z; cases z
            · rw [h] at z; cases z
          have ePut : Ext H3 p3 (L2.upd H3 D (.lst (acc ++ [v]))) p3 := ext_put mD3
          refine ⟨acc, hD3, by omega, p3.α, S3, acc ++ [v], es ++ [x3], ?_, ?_, upd_same, by rw [List.length_append, List.length_singleton]; omega, ?_, ?_, ?_⟩
          · rw [← ep3]
            refine ⟨hE3.len, fun j d nj z => ?_, fun j d oj z => ?_, hE3.dj⟩
            · obtain ⟨v, h1, h2⟩ := hE3.get j d nj z
              exact ⟨v, h1, h2.ext ePut⟩
            · obtain ⟨a, h1, h2, h3⟩ := hE3.own j d oj z
              exact ⟨a, h1, h2, h3.ext ePut fun u zz => by rw [upd_ne fun c => noO j d oj z (by rw [← c]; exact h1)]; exact zz⟩
          · rw [← ep3]
            exact s3.put mD3
          · rw [← ep3]
            exact (hacc3.append (.one hv)).ext ePut
          · have z : ExtE H1 p1 H3 ⟨p3.α, p1.ω, p1.γ⟩ := ex2.trans ⟨e3.α, rfl, rfl, e3.k, e3.t⟩
            exact ⟨z.α, rfl, rfl, fun a o h n => by rw [upd_ne (ne_of_none h nD)]; exact z.k a o h n, fun a n => by rw [upd_ne fun c => n (by rw [c]; exact nD)]; exact z.t a n⟩
          · refine q7.bndK.mono fun xs S'' H'' p'' e s q ws hDw nh hs hws => ?_
            refine q H'' p'' e s ws hDw nh hs ?_
            rw [List.append_assoc] at hws
            exact hws
        | false =>
          have q5 : Post Z Er ExtE (compD gm mb m (wipeE ρ vs) (ds.drop (i + 1)) S2) H1 p1 _ := q4
          exact ⟨p2.α, S2, acc, es, by rw [← ep2]; exact hE2, by rw [← ep2]; exact s2, hD2, by omega, by rw [← ep2]; exact hacc2, ex2, q5⟩
      · have e : i = ds.length := by omega
        subst e
        rw [List.drop_length] at q'
        refine .inl ⟨(hJ H' _ S' _ exC hS').2 rfl, ?_⟩
        have hS3 := hS'.less (ω := p1.ω) fun a h => List.mem_append_left _ h
        have nh : ¬ (⟨α', p1.ω, p1.γ⟩ : Pl).has D := by
          rintro (h | h | h)
          · exact (hS'.dj D mD).1 h
          · exact s1.wt D (.inl h) nD
          · exact s1.wt D (.inr h) nD
        refine q' H' _ ex hS3 acc hD nh hS' ?_
        rw [List.append_nil]
        exact hacc)
theorem IsDs.unplus {H : Hp} {p : Pl} {a : Addr} {vs : List V} {ds : List Dat} (h : IsDs Z H ⟨p.α, p.ω ++ [a], p.γ⟩ vs ds) : IsDs Z H p vs ds :=
  have l2 : ∀ b, p.has b → (⟨p.α, p.ω ++ [a], p.γ⟩ : Pl).has b := fun b h => h.imp id fun h => h.imp (List.mem_append_left _) id
  IsDs.less (p := ⟨p.α, p.ω ++ [a], p.γ⟩) (p' := p) rfl l2 _ h
theorem IsTop.isD {H : Hp} {p : Pl} {a : Addr} {d : Dat} (nh : ¬ p.has a) (h : IsTop Z H ⟨p.α, p.ω ++ [a], p.γ⟩ a d) : IsD Z H p (.ref a) d := by
  cases d with
  | lst ds => obtain ⟨vs, e1, h1⟩ := h; exact isD_lst.mpr ⟨a, vs, rfl, ⟨e1, nh⟩, h1.unplus⟩
  | dic ks ds => obtain ⟨vs, e1, n, h1⟩ := h; exact isD_dic.mpr ⟨a, vs, rfl, ⟨e1, nh⟩, n, h1.unplus⟩
  | obj c fs ds => obtain ⟨dx, vs, e1, n, h1⟩ := h; exact isD_obj.mpr ⟨a, vs, rfl, ⟨⟨dx, e1⟩, nh⟩, n, h1.unplus⟩
  | _ => exact h.elim
theorem JF.d (h : JF Z Er O te m) : JD Z Er O te m := fun σ H p ρ S Q hE hS q => h σ H p ρ S Q hE hS (q.mono fun d S' H' p' _ _ k a _ _ nh _ t => k _ (t.isD nh))
theorem j_lc {wi : TI} {it : Env → M (List Dat)} {g : TG} {gm : Env → Dat → Option Env} {vs : List Nat} (hi : JI Z Er O ExtC wi it) (hg : JG Z O g gm (some vs)) (hc : JB Z Er O tt mb) (he : JD Z Er O te m) : JD Z Er O (tLc wi g tt te vs) (xLc it gm mb m vs) := (jf_lc hi hg hc he).d
theorem jf_lst (hl : JA Z Er O tl ml) : JF Z Er O (tLst tl) (xLst ml) := fun σ H p ρ S Q hE hS q =>
  hl σ H p ρ S _ hE hS ((q.bnd xE).mono fun ds S1 H1 p1 e1 s1 q1 vs hv => by
    obtain ⟨c, q2⟩ := q1.need
    refine ⟨few (by rw [hv.len]; exact of_decide_eq_true c), fun a na => q2.at_new s1 na a (back_of e1.t na) (by rw [upd_same]; exact nofun) (no_has s1 na) (own_new (hE.ext e1 hS) s1 na).2 ⟨vs, upd_same, ?_⟩⟩
    exact hv.ext (ExtC.plus (ExtE.new na) na).s)
end
end Zd
namespace Zd
open PySem PySem.Spec PyProof.Rows L2
mutual
def toPy : Dat → Option PyData
  | .non => some .none
  | .bl b => some (.bool b)
  | .int i => some (.int i)
  | .str x => some (.str x)
  | .tup ds => (toPys ds).map .tuple
  | .lst ds => (toPys ds).map .list
  | _ => none
def toPys : List Dat → Option (List PyData)
  | [] => some []
  | d :: ds => (toPy d).bind fun x => (toPys ds).map (x :: ·)
end
section
variable {Z : Cz} {H : Hp} {p : Pl}
theorem toPys_cons {d : Dat} {ds : List Dat} {ys : List PyData} (h : toPys (d :: ds) = some ys) : ∃ x xs, toPy d = some x ∧ toPys ds = some xs ∧ ys = x :: xs := by
  rw [toPys] at h
  cases e : toPy d with
  | none => rw [e] at h; cases h
  | some x =>
    cases e2 : toPys ds with
    | none => rw [e, e2] at h; cases h
    | some xs => rw [e, e2] at h; cases h; exact ⟨x, xs, rfl, rfl, rfl⟩
mutual
theorem IsD.dp : ∀ (d : Dat) {v : V} {y : PyData}, IsD Z H p v d → toPy d = some y → Dp Z.K H v y
  | .non, _, _, h, e => by rw [toPy] at e; cases e; rw [isD_non.mp h]; exact .non
  | .bl b, _, _, h, e => by rw [toPy] at e; cases e; rw [isD_bl.mp h]; exact .bl b
  | .int i, _, _, h, e => by rw [toPy] at e; cases e; rw [isD_int.mp h]; exact .int i
  | .str x, _, _, h, e => by rw [toPy] at e; cases e; rw [isD_str.mp h]; exact .str x
  | .tup ds, _, y, h, e => by
    obtain ⟨a, vs, rfl, h1, h2⟩ := isD_tup.mp h
    rw [toPy] at e
    cases e2 : toPys ds with
    | none => rw [e2] at e; cases e
    | some ys => rw [e2] at e; cases e; exact .tup h1.sq (IsDs.dp ds h2 e2)
  | .lst ds, _, y, h, e => by
    obtain ⟨a, vs, rfl, h1, h2⟩ := isD_lst.mp h
    rw [toPy] at e
    cases e2 : toPys ds with
    | none => rw [e2] at e; cases e
    | some ys => rw [e2] at e; cases e; exact .lst h1.sq (IsDs.dp ds h2 e2)
  | .dic _ _, _, _, _, e => by rw [toPy] at e <;> first | cases e | nofun
  | .obj _ _ _, _, _, _, e => by rw [toPy] at e <;> first | cases e | nofun
  | .loc _, _, _, _, e => by rw [toPy] at e <;> first | cases e | nofun
  | .ty _, _, _, _, e => by rw [toPy] at e <;> first | cases e | nofun
  | .cls _, _, _, _, e => by rw [toPy] at e <;> first | cases e | nofun
  | .scr _, _, _, _, e => by rw [toPy] at e <;> first | cases e | nofun
theorem IsDs.dp : ∀ (ds : List Dat) {vs : List V} {ys : List PyData}, IsDs Z H p vs ds → toPys ds = some ys → DpAll Z.K H vs ys
  | [], _, _, h, e => by rw [toPys] at e; cases e; rw [isDs_nil.mp h]; exact .nil
  | d :: ds, _, _, h, e => by
    obtain ⟨v, r, rfl, h1, h2⟩ := isDs_cons.mp h
    obtain ⟨x, xs, e1, e2, rfl⟩ := toPys_cons e
    exact .cons (IsD.dp d h1 e1) (IsDs.dp ds h2 e2)
end
theorem IsW.dp {v : V} {d : Dat} {y : PyData} (h : IsW Z H p v d) (e : toPy d = some y) : Dp Z.K H v y := by
  cases d with
  | lst ds =>
    obtain ⟨a, vs, rfl, h1, h2⟩ := h
    rw [toPy] at e
    cases e2 : toPys ds with
    | none => rw [e2] at e; cases e
    | some ys => rw [e2] at e; cases e; exact .lst (SqL.of h1.1) (IsDs.dp ds h2 e2)
  | dic _ _ => rw [toPy] at e <;> first | cases e | nofun
  | obj _ _ _ => rw [toPy] at e <;> first | cases e | nofun
  | non => exact IsD.dp _ h e
  | bl b => exact IsD.dp _ h e
  | int i => exact IsD.dp _ h e
  | str x => exact IsD.dp _ h e
  | tup ds => exact IsD.dp _ h e
  | loc n => exact IsD.dp _ h e
  | ty n => exact IsD.dp _ h e
  | cls n => exact IsD.dp _ h e
  | scr n => exact IsD.dp _ h e
end
section
variable {Z : Cz} {Er : ErW} {O : List Nat}
/-- of two ints, of one -/
def dI (C : Int → Int → Bool) (G : Int → Int → Dat) (d e : Dat) : M Dat := match d, e with
  | .int i, .int j => M.need (C i j) >>= fun _ => pure (G i j)
  | _, _ => M.no
def dI0 (G : Int → Int → Dat) (d e : Dat) : M Dat := match d, e with
  | .int i, .int j => pure (G i j)
  | _, _ => M.no
theorem bad_no {α : Type} {S : List Dat} {H : Hp} {p : Pl} {X : XR} {C : α → List Dat → Hp → Pl → Prop} (h : Post Z Er X ((M.no : M α) S) H p C) : False := h
theorem jr_I0 {g : Int → Int → V} {G : Int → Int → Dat} (h : ∀ i j H p, IsD Z H p (g i j) (G i j)) : JR Z (IsD Z) (IsD Z) (IsD Z) (rI0 g) (dI0 G) := fun x y d e Er H p S Q hx hy s q => by
  unfold dI0 at q
  split at q
  · exact ⟨_, _, isD_int.mp hx, isD_int.mp hy, q.pure xE s _ (h _ _ H p)⟩
  · exact (bad_no q).elim
theorem jr_I {C : Int → Int → Prop} {B : Int → Int → Bool} {g : Int → Int → V} {G : Int → Int → Dat} (hB : ∀ i j, B i j = true → C i j) (h : ∀ i j H p, IsD Z H p (g i j) (G i j)) : JR Z (IsD Z) (IsD Z) (IsD Z) (rI C g) (dI B G) := fun x y d e Er H p S Q hx hy s q => by
  unfold dI at q
  split at q
  · obtain ⟨c, q⟩ := q.need
    exact ⟨_, _, isD_int.mp hx, isD_int.mp hy, hB _ _ c, q.pure xE s _ (h _ _ H p)⟩
  · exact (bad_no q).elim
def dAdd := dI0 fun i j => .int (i + j)
def dSub := dI0 fun i j => .int (i - j)
def bMul (i j : Int) : Bool := (decide (-(2 ^ 64) < i) && decide (i < 2 ^ 64)) || (decide (-(2 ^ 64) < j) && decide (j < 2 ^ 64))
def dMul := dI bMul fun i j => .int (i * j)
def dMod := dI (fun _ j => decide (0 < j)) fun i j => .int (i % j)
def dDiv := dI (fun _ j => decide (0 < j) && decide (j < 2 ^ 200)) fun i j => .int (i / j)
def bPow (i j : Int) : Bool := decide (0 ≤ j) && decide (j ≤ 1000000) && decide (i.natAbs < 2 ^ 64)
def dPow := dI bPow fun i j => .int (i ^ j.toNat)
def bPowZ (i j : Int) : Bool := decide (0 ≤ j) && decide ((Builtin.Int.intBits i : Int) * j ≤ 2 ^ 27)
def dPowZ := dI bPowZ fun i j => .int (i ^ j.toNat)
def dLt := dI0 fun i j => .bl (decide (i < j))
def dLe := dI0 fun i j => .bl (decide (i ≤ j))
def dGt := dI0 fun i j => .bl (decide (j < i))
def dGe := dI0 fun i j => .bl (decide (j ≤ i))
abbrev JRD (Z : Cz) (r : L2.R2) (f : Dat → Dat → M Dat) : Prop := JR Z (IsD Z) (IsD Z) (IsD Z) r f
theorem r_add : JRD Z (rI0 fun i j => .int (i + j)) dAdd := jr_I0 fun _ _ _ _ => isD_int.mpr rfl
theorem r_sub : JRD Z (rI0 fun i j => .int (i - j)) dSub := jr_I0 fun _ _ _ _ => isD_int.mpr rfl
theorem r_lt : JRD Z (rI0 fun i j => .bl (decide (i < j))) dLt := jr_I0 fun _ _ _ _ => isD_bl.mpr rfl
theorem r_le : JRD Z (rI0 fun i j => .bl (decide (i ≤ j))) dLe := jr_I0 fun _ _ _ _ => isD_bl.mpr rfl
theorem r_gt : JRD Z (rI0 fun i j => .bl (decide (j < i))) dGt := jr_I0 fun _ _ _ _ => isD_bl.mpr rfl
theorem r_ge : JRD Z (rI0 fun i j => .bl (decide (j ≤ i))) dGe := jr_I0 fun _ _ _ _ => isD_bl.mpr rfl
theorem r_mul : JRD Z (rI CMul fun i j => .int (i * j)) dMul := jr_I (fun i j h => by
  unfold bMul at h
  simp only [Bool.or_eq_true, Bool.and_eq_true, decide_eq_true_eq] at h
  exact h) fun _ _ _ _ => isD_int.mpr rfl
theorem r_mod : JRD Z (rI (fun _ j => 0 < j) fun i j => .int (i % j)) dMod := jr_I (fun i j h => of_decide_eq_true h) fun _ _ _ _ => isD_int.mpr rfl
theorem r_div : JRD Z (rI CDivW fun i j => .int (i / j)) dDiv := jr_I (fun i j h => by
  simp only [Bool.and_eq_true, decide_eq_true_eq] at h
  exact wide_div h.1 (b := 200) (by omega) (by decide) (by decide)) fun _ _ _ _ => isD_int.mpr rfl
theorem r_pow : JRD Z (rI CPow fun i j => .int (i ^ j.toNat)) dPow := jr_I (fun i j h => by
  unfold bPow at h
  simp only [Bool.and_eq_true, decide_eq_true_eq] at h
  exact ⟨h.1.1, h.1.2, h.2⟩) fun _ _ _ _ => isD_int.mpr rfl
theorem r_powZ : JRD Z (rI Zg.CPowZ fun i j => .int (i ^ j.toNat)) dPowZ := jr_I (fun i j h => by
  unfold bPowZ at h
  simp only [Bool.and_eq_true, decide_eq_true_eq] at h
  exact ⟨h.1, h.2⟩) fun _ _ _ _ => isD_int.mpr rfl
def dNeg (d : Dat) : M Dat := match d with
  | .int i => pure (.int (-i))
  | _ => M.no
theorem u_neg : JU Z (IsD Z) (IsD Z) (rU fun i => .int (-i)) dNeg := fun x d Er H p S Q hx s q => by
  unfold dNeg at q
  split at q
  · exact ⟨_, isD_int.mp hx, q.pure xE s _ (isD_int.mpr rfl)⟩
  · exact (bad_no q).elim
def vS : Dat → Option V
  | .non => some .non
  | .bl b => some (.bl b)
  | .int i => some (.int i)
  | .str x => some (.str x)
  | _ => none
theorem vS_is {H : Hp} {p : Pl} {v x : V} {d : Dat} (h : IsD Z H p v d) (e : vS d = some x) : v = x := by
  cases d with
  | non => cases e; exact isD_non.mp h
  | bl b => cases e; exact isD_bl.mp h
  | int i => cases e; exact isD_int.mp h
  | str z => cases e; exact isD_str.mp h
  | _ => cases e
def dEq (d e : Dat) : M Dat := M.opt (vS d) >>= fun x => M.opt (vS e) >>= fun y => M.need (scal x y) >>= fun _ => pure (.bl (decide (x = y)))
def dNe (d e : Dat) : M Dat := M.opt (vS d) >>= fun x => M.opt (vS e) >>= fun y => M.need (scal x y) >>= fun _ => pure (.bl (!decide (x = y)))
theorem r_eq : JRD Z rEq dEq := fun x y d e Er H p S Q hx hy s q => by
  obtain ⟨v, e1, q⟩ := q.opt
  obtain ⟨w, e2, q⟩ := q.opt
  obtain ⟨c, q⟩ := q.need
  rw [vS_is hx e1, vS_is hy e2]
  exact ⟨c, q.pure xE s _ (isD_bl.mpr rfl)⟩
theorem r_ne : JRD Z rNe dNe := fun x y d e Er H p S Q hx hy s q => by
  obtain ⟨v, e1, q⟩ := q.opt
  obtain ⟨w, e2, q⟩ := q.opt
  obtain ⟨c, q⟩ := q.need
  rw [vS_is hx e1, vS_is hy e2]
  exact ⟨c, q.pure xE s _ (isD_bl.mpr rfl)⟩
def isNon : Dat → Bool
  | .non => true
  | _ => false
def shp (y : PyData) : Bool := SeqAt.shaped y
def dEqD (b : Bool) (d e : Dat) : M Dat := M.opt (toPy d) >>= fun x => M.opt (toPy e) >>= fun y => M.need (shp x && shp y) >>= fun _ => pure (.bl (b != PyData.eqv x y))
theorem r_eqD : JR Z (IsW Z) (IsW Z) (IsD Z) (rEqD Z.K) (dEqD false) := fun x y d e Er H p S Q hx hy s q => by
  obtain ⟨v, e1, q⟩ := q.opt
  obtain ⟨w, e2, q⟩ := q.opt
  obtain ⟨c, q⟩ := q.need
  rw [Bool.and_eq_true] at c
  exact ⟨v, w, hx.dp e1, hy.dp e2, c.1, c.2, q.pure xE s _ (isD_bl.mpr (by simp))⟩
theorem r_neD : JR Z (IsW Z) (IsW Z) (IsD Z) (rNeD Z.K) (dEqD true) := fun x y d e Er H p S Q hx hy s q => by
  obtain ⟨v, e1, q⟩ := q.opt
  obtain ⟨w, e2, q⟩ := q.opt
  obtain ⟨c, q⟩ := q.need
  rw [Bool.and_eq_true] at c
  exact ⟨v, w, hx.dp e1, hy.dp e2, c.1, c.2, q.pure xE s _ (isD_bl.mpr (by simp))⟩
def itemsOf : Dat → Option (List Dat)
  | .tup ds => some ds
  | .lst ds => some ds
  | _ => none
def dCatT (d e : Dat) : M Dat := match d, e with
  | .tup xs, .tup ys => M.need (decide (xs.length + ys.length ≤ 100000)) >>= fun _ => pure (.tup (xs ++ ys))
  | _, _ => M.no
theorem lim {n : Nat} (h : n ≤ 100000) : n ≤ sizeLine := by have := sizeLine_eq; omega
theorem r_catT : JRD Z (rCatA Z.K) dCatT := fun x y d e Er H p S Q hx hy s q => by
  unfold dCatT at q
  split at q
  · rename_i xs ys
    obtain ⟨c, q⟩ := q.need
    have c := of_decide_eq_true c
    obtain ⟨a, vs, rfl, h1, h2⟩ := isD_tup.mp hx
    obtain ⟨b, ws, rfl, g1, g2⟩ := isD_tup.mp hy
    refine ⟨a, b, vs, ws, rfl, rfl, h1.sq, g1.sq, lim (by rw [h2.len, g2.len]; exact c), fun z => ?_, fun z z2 => ?_, fun _ _ t o nt nd => ?_⟩
    · have e : xs = [] := List.length_eq_zero_iff.mp (by rw [← h2.len, z]; rfl)
      subst e
      exact q.pure xE s _ hy
    · have e : ys = [] := List.length_eq_zero_iff.mp (by rw [← g2.len, z2]; rfl)
      subst e
      have q := q.pure xE s
      rw [List.append_nil] at q
      exact q _ hx
    · exact q.at_new s nt _ (new_tup s nt nd (h2.append g2))
  · exact (bad_no q).elim
def dCatL (d e : Dat) : M Dat := match d, e with
  | .lst xs, .lst ys => M.need (decide (xs.length + ys.length ≤ 100000)) >>= fun _ => pure (.lst (xs ++ ys))
  | _, _ => M.no
theorem r_catL : JR Z (IsW Z) (IsW Z) (IsD Z) rCat dCatL := fun x y d e Er H p S Q hx hy s q => by
  unfold dCatL at q
  split at q
  · obtain ⟨c, q⟩ := q.need
    have c := of_decide_eq_true c
    obtain ⟨a, vs, rfl, h1, h2⟩ := hx
    obtain ⟨b, ws, rfl, g1, g2⟩ := hy
    exact ⟨a, b, vs, ws, rfl, rfl, h1.1, g1.1, lim (by rw [h2.len, g2.len]; exact c), fun t nt => q.at_new s nt _ (new_lst s nt (h2.append g2))⟩
  · exact (bad_no q).elim
theorem IsDs.rep {H : Hp} {p : Pl} {vs : List V} {ds : List Dat} (h : IsDs Z H p vs ds) : ∀ n : Nat, IsDs Z H p (List.replicate n vs).flatten (List.replicate n ds).flatten
  | 0 => isDs_nil.mpr rfl
  | n + 1 => by
    rw [List.replicate_succ, List.replicate_succ, List.flatten_cons, List.flatten_cons]
    exact h.append (IsDs.rep h n)
def dRepL (d e : Dat) : M Dat := match d, e with
  | .lst xs, .int k => M.need (decide (-(2 ^ 63) ≤ k) && decide (k < 2 ^ 63) && decide (xs.length * k.toNat ≤ 100000)) >>= fun _ => pure (.lst (List.replicate k.toNat xs).flatten)
  | _, _ => M.no
theorem r_repL : JRD Z rRep dRepL := fun x y d e Er H p S Q hx hy s q => by
  unfold dRepL at q
  split at q
  · obtain ⟨c, q⟩ := q.need
    simp only [Bool.and_eq_true, decide_eq_true_eq] at c
    obtain ⟨a, vs, rfl, h1, h2⟩ := isD_lst.mp hx
    exact ⟨a, _, vs, rfl, isD_int.mp hy, h1.1, c.1.1, c.1.2, lim (by rw [h2.len]; exact c.2), fun t nt => q.at_new s nt _ (new_lst s nt (h2.rep _))⟩
  · exact (bad_no q).elim
def dAddS (d e : Dat) : M Dat := match d, e with
  | .str x, .str y => M.need (decide (x.length + y.length ≤ 100000)) >>= fun _ => pure (.str (x ++ y))
  | _, _ => M.no
theorem r_addS : JRD Z (fun x y H Q => ∃ i j, x = .str i ∧ y = .str j ∧ i.length + j.length ≤ sizeLine ∧ Q (.str (i ++ j)) H) dAddS := fun x y d e Er H p S Q hx hy s q => by
  unfold dAddS at q
  split at q
  · obtain ⟨c, q⟩ := q.need
    exact ⟨_, _, isD_str.mp hx, isD_str.mp hy, lim (of_decide_eq_true c), q.pure xE s _ (isD_str.mpr rfl)⟩
  · exact (bad_no q).elim
def dLtS (d e : Dat) : M Dat := match d, e with
  | .str x, .str y => pure (.bl (decide (x.cps.toList < y.cps.toList)))
  | _, _ => M.no
theorem r_ltS : JRD Z (fun x y H Q => ∃ i j, x = .str i ∧ y = .str j ∧ Q (.bl (decide (i.cps.toList < j.cps.toList))) H) dLtS := fun x y d e Er H p S Q hx hy s q => by
  unfold dLtS at q
  split at q
  · exact ⟨_, _, isD_str.mp hx, isD_str.mp hy, q.pure xE s _ (isD_bl.mpr rfl)⟩
  · exact (bad_no q).elim
theorem atI_rel {H : Hp} {p : Pl} {vs : List V} {ds : List Dat} {i : Int} {d : Dat} (h : IsDs Z H p vs ds) (e : atI ds i = some d) : ∃ v, atI vs i = some v ∧ IsD Z H p v d := by
  unfold atI at e ⊢
  rw [h.len]
  cases q : ixN ds.length i with
  | none => rw [q] at e; cases e
  | some j =>
    rw [q] at e
    exact h.get e
def dIxL (d e : Dat) : M Dat := match d, e with
  | .lst xs, .int i => M.opt (atI xs i)
  | _, _ => M.no
def dIxT (d e : Dat) : M Dat := match d, e with
  | .tup xs, .int i => M.opt (atI xs i)
  | _, _ => M.no
theorem r_ixT : JRD Z (rIxT Z.K) dIxT := fun x y d e Er H p S Q hx hy s q => by
  unfold dIxT at q
  split at q
  · obtain ⟨c, e, q⟩ := opt_pure xE q s
    obtain ⟨a, vs, rfl, h1, h2⟩ := isD_tup.mp hx
    obtain ⟨v, e1, e2⟩ := atI_rel h2 e
    exact ⟨a, vs, _, v, rfl, isD_int.mp hy, h1.sq, e1, q v e2⟩
  · exact (bad_no q).elim
theorem r_ixL : JR Z (IsW Z) (IsD Z) (IsD Z) (rIxL Z.K) dIxL := fun x y d e Er H p S Q hx hy s q => by
  unfold dIxL at q
  split at q
  · obtain ⟨c, e, q⟩ := opt_pure xE q s
    obtain ⟨a, vs, rfl, h1, h2⟩ := hx
    obtain ⟨v, e1, e2⟩ := atI_rel h2 e
    exact ⟨a, vs, _, v, rfl, isD_int.mp hy, SqL.of h1.1, e1, q v e2⟩
  · exact (bad_no q).elim
/-- a sign of the script -/
def dIxSc (d e : Dat) : M Dat := match d, e with
  | .scr xs, .int i => M.opt (atI xs i) >>= fun n => pure (.int n)
  | _, _ => M.no
theorem r_ixSc : JRD Z (rIxL Z.K) dIxSc := fun x y d e Er H p S Q hx hy s q => by
  unfold dIxSc at q
  split at q
  · rename_i xs i
    obtain ⟨n, e, q⟩ := q.opt
    obtain ⟨a, rfl, h1⟩ := isD_scr.mp hx
    have e1 : atI (xs.map V.int) i = some (.int n) := by
      unfold atI at e ⊢
      rw [List.length_map]
      cases z : ixN xs.length i with
      | none => rw [z] at e; cases e
      | some j =>
        rw [z] at e
        have e : xs[j]? = some n := e
        show (xs.map V.int)[j]? = some (.int n)
        rw [List.getElem?_map, e]
        rfl
    exact ⟨a, _, _, _, rfl, isD_int.mp hy, h1.elim (fun z => .inl z.1) fun z => z H, e1, q.pure xE s _ (isD_int.mpr rfl)⟩
  · exact (bad_no q).elim
/-- an item of a shared list -/
def dIxLo (d e : Dat) : M Dat := match d, e with
  | .loc n, .int i => fun S => match S[n]? with
    | some (.lst xs) => M.opt (atI xs i) S
    | _ => .bad
  | _, _ => M.no
theorem r_ixLo : JRD Z (rIxL Z.K) dIxLo := fun x y d e Er H p S Q hx hy s q => by
  cases d with
  | loc n =>
    cases e with
    | int i =>
      obtain ⟨a, rfl, ha⟩ := isD_loc.mp hx
      have q : Post Z Er ExtE (match S[n]? with | some (.lst xs) => M.opt (atI xs i) S | _ => .bad) H p _ := q
      split at q
      · rename_i xs ex
        obtain ⟨c, e, q⟩ := opt_pure xE q s
        obtain ⟨vs, h1, h2⟩ := s.at_ n a _ ha ex
        obtain ⟨v, e1, e2⟩ := atI_rel h2 e
        exact ⟨a, vs, _, v, rfl, isD_int.mp hy, SqL.of h1, e1, q v e2⟩
      · exact q.elim
    | _ => exact (bad_no (S := S) q).elim
  | _ => exact (bad_no (S := S) q).elim
def cutD (xs : List Dat) (lo hi : Option Int) : List Dat := (xs.drop (HT.sIx xs.length 0 lo)).take (HT.sIx xs.length xs.length hi - HT.sIx xs.length 0 lo)
theorem IsDs.cut {H : Hp} {p : Pl} {vs : List V} {ds : List Dat} (h : IsDs Z H p vs ds) (lo hi : Option Int) : IsDs Z H p (cutV vs lo hi) (cutD ds lo hi) := by
  unfold cutV cutD
  rw [h.len]
  exact (h.drop _).take _
def jSl (f : Dat → Option Int → Option Int → M Dat) (a : Env → M Dat) (l u : Env → M (Option Int)) (ρ : Env) : M Dat := a ρ >>= fun x => l ρ >>= fun lo => u ρ >>= fun hi => f x lo hi
def dCutT (d : Dat) (lo hi : Option Int) : M Dat := match d with
  | .tup xs => pure (.tup (cutD xs lo hi))
  | _ => M.no
def dCutL (d : Dat) (lo hi : Option Int) : M Dat := match d with
  | .lst xs => pure (.lst (cutD xs lo hi))
  | _ => M.no
def oNone (_ : Env) : M (Option Int) := pure none
def oSome (a : Env → M Dat) (ρ : Env) : M (Option Int) := a ρ >>= fun x => match x with
  | .int i => pure (some i)
  | _ => M.no
variable {te ta tb : TE} {tl th : TO} {m m1 m2 : Env → M Dat} {ml mh : Env → M (Option Int)}
theorem jo_none : JO Z Er O tNoPart oNone := fun σ H p ρ S Q hE hS q => q.pure xE hS none rfl
theorem jo_some (h : JD Z Er O te m) : JO Z Er O (tPart te) (oSome m) := fun σ H p ρ S Q hE hS q =>
  h σ H p ρ S _ hE hS ((q.bnd xE).mono fun d S1 H1 p1 e1 s1 q1 v hv => by
    cases d with
    | int i => exact ⟨i, isD_int.mp hv, q1.pure xE s1 _ rfl⟩
    | _ => exact (bad_no q1).elim)
theorem j_slT (h : JD Z Er O te m) (hl : JO Z Er O tl ml) (hh : JO Z Er O th mh) : JD Z Er O (tSl (rSlA Z.K) te tl th) (jSl dCutT m ml mh) := fun σ H p ρ S Q hE hS q =>
  h σ H p ρ S _ hE hS ((q.bnd xE).mono fun d S1 H1 p1 e1 s1 q1 v hv => hl σ H1 p1 ρ S1 _ (hE.ext e1 hS) s1 ((q1.bnd xE).mono fun lo S2 H2 p2 e2 s2 q2 lo' elo => hh σ H2 p2 ρ S2 _ ((hE.ext e1 hS).ext e2 s1) s2 ((q2.bnd xE).mono fun hi S3 H3 p3 e3 s3 q3 hi' ehi => by
    subst elo ehi
    have hv3 := hv.ext (e2.trans e3).s
    unfold dCutT at q3
    split at q3
    · rename_i xs
      obtain ⟨a, vs, rfl, h1, h2⟩ := isD_tup.mp hv3
      refine ⟨a, vs, rfl, h1.sq, fun wh => ?_, fun _ t o nt nd => q3.at_new s3 nt _ (new_tup s3 nt nd (h2.cut _ _))⟩
      have e : cutD xs lo' hi' = xs := by
        rw [h2.len] at wh
        unfold cutD
        rw [wh.1, wh.2, List.drop_zero, Nat.sub_zero, List.take_length]
      have q3 := q3.pure xE s3
      rw [e] at q3
      exact q3 _ hv3
    · exact (bad_no q3).elim)))
theorem j_slL (h : JW Z Er O te m) (hl : JO Z Er O tl ml) (hh : JO Z Er O th mh) : JD Z Er O (tSl (rSlL Z.K) te tl th) (jSl dCutL m ml mh) := fun σ H p ρ S Q hE hS q =>
  h σ H p ρ S _ hE hS ((q.bnd xE).mono fun d S1 H1 p1 e1 s1 q1 v hv => hl σ H1 p1 ρ S1 _ (hE.ext e1 hS) s1 ((q1.bnd xE).mono fun lo S2 H2 p2 e2 s2 q2 lo' elo => hh σ H2 p2 ρ S2 _ ((hE.ext e1 hS).ext e2 s1) s2 ((q2.bnd xE).mono fun hi S3 H3 p3 e3 s3 q3 hi' ehi => by
    subst elo ehi
    have hv3 := upW.up (e2.trans e3) s1 hv
    unfold dCutL at q3
    split at q3
    · rename_i xs
      obtain ⟨a, vs, rfl, h1, h2⟩ := hv3
      exact ⟨a, vs, rfl, SqL.of h1.1, fun t nt => q3.at_new s3 nt _ (new_lst s3 nt (h2.cut _ _))⟩
    · exact (bad_no q3).elim)))
def dLen (ds : List Dat) : M Dat := match ds with
  | [.lst xs] => pure (.int xs.length)
  | [.tup xs] => pure (.int xs.length)
  | [.scr xs] => pure (.int xs.length)
  | _ => M.no
abbrev JCW (Z : Cz) (r : List V → Hp → VK → Prop) (f : List Dat → M Dat) : Prop := JC Z (IsWs Z) (IsD Z) r f
theorem isWs_one {H : Hp} {p : Pl} {vs : List V} {d : Dat} (h : IsWs Z H p vs [d]) : ∃ v, vs = [v] ∧ IsW Z H p v d := by
  obtain ⟨v, r, rfl, h1, h2⟩ := h
  rw [isDs_nil.mp h2]
  exact ⟨v, rfl, h1⟩
theorem isDs_two {H : Hp} {p : Pl} {vs : List V} {d e : Dat} (h : IsDs Z H p vs [d, e]) : ∃ v w, vs = [v, w] ∧ IsD Z H p v d ∧ IsD Z H p w e := by
  obtain ⟨v, r, rfl, h1, h2⟩ := isDs_cons.mp h
  obtain ⟨w, r, rfl, h3, h4⟩ := isDs_cons.mp h2
  rw [isDs_nil.mp h4]
  exact ⟨v, w, rfl, h1, h3⟩
theorem isDs_one {H : Hp} {p : Pl} {vs : List V} {d : Dat} (h : IsDs Z H p vs [d]) : ∃ v, vs = [v] ∧ IsD Z H p v d := by
  obtain ⟨v, r, rfl, h1, h2⟩ := isDs_cons.mp h
  rw [isDs_nil.mp h2]
  exact ⟨v, rfl, h1⟩
theorem c_len : JCW Z (fun xs H Q => ∃ p ys, xs = [.ref p] ∧ (SqL Z.K H p ys ∨ SqT Z.K H p ys) ∧ Q (.int ys.length) H) dLen := fun x d Er H p S Q hx s q => by
  unfold dLen at q
  split at q
  · obtain ⟨v, rfl, hv⟩ := isWs_one hx
    obtain ⟨a, vs, rfl, h1, h2⟩ := hv
    refine ⟨a, vs, rfl, .inl (SqL.of h1.1), ?_⟩
    rw [h2.len]
    exact q.pure xE s _ (isD_int.mpr rfl)
  · obtain ⟨v, rfl, hv⟩ := isWs_one hx
    obtain ⟨a, vs, rfl, h1, h2⟩ := isD_tup.mp hv
    refine ⟨a, vs, rfl, .inr h1.sq, ?_⟩
    rw [h2.len]
    exact q.pure xE s _ (isD_int.mpr rfl)
  · obtain ⟨v, rfl, hv⟩ := isWs_one hx
    obtain ⟨a, rfl, h1⟩ := isD_scr.mp hv
    refine ⟨a, _, rfl, .inl (h1.elim (fun z => .inl z.1) fun z => z H), ?_⟩
    rw [List.length_map]
    exact q.pure xE s _ (isD_int.mpr rfl)
  · exact (bad_no q).elim
def dLenS (ds : List Dat) : M Dat := match ds with
  | [.str x] => M.need (decide (x.length ≤ 100000)) >>= fun _ => pure (.int x.length)
  | _ => M.no
theorem c_lenS : JC Z (IsDs Z) (IsD Z) (fun xs H Q => ∃ z, xs = [.str z] ∧ z.length ≤ sizeLine ∧ Q (.int z.length) H) dLenS := fun x d Er H p S Q hx s q => by
  unfold dLenS at q
  split at q
  · obtain ⟨c, q⟩ := q.need
    obtain ⟨v, rfl, hv⟩ := isDs_one hx
    exact ⟨_, by rw [isD_str.mp hv], lim (of_decide_eq_true c), q.pure xE s _ (isD_int.mpr rfl)⟩
  · exact (bad_no q).elim
def dMax (ds : List Dat) : M Dat := match ds with
  | [.int i, .int j] => pure (.int (if j > i then j else i))
  | _ => M.no
def dMin (ds : List Dat) : M Dat := match ds with
  | [.int i, .int j] => pure (.int (if j < i then j else i))
  | _ => M.no
def dAbs (ds : List Dat) : M Dat := match ds with
  | [.int i] => pure (.int (if i < 0 then -i else i))
  | _ => M.no
def dInt (ds : List Dat) : M Dat := match ds with
  | [.int i] => pure (.int i)
  | [.bl b] => pure (.int (if b then 1 else 0))
  | _ => M.no
theorem c_max : JC Z (IsDs Z) (IsD Z) (fun xs H Q => ∃ i j, xs = [.int i, .int j] ∧ Q (.int (if j > i then j else i)) H) dMax := fun x d Er H p S Q hx s q => by
  unfold dMax at q
  split at q
  · obtain ⟨v, w, rfl, h1, h2⟩ := isDs_two hx
    exact ⟨_, _, by rw [isD_int.mp h1, isD_int.mp h2], q.pure xE s _ (isD_int.mpr rfl)⟩
  · exact (bad_no q).elim
theorem c_min : JC Z (IsDs Z) (IsD Z) (fun xs H Q => ∃ i j, xs = [.int i, .int j] ∧ Q (.int (if j < i then j else i)) H) dMin := fun x d Er H p S Q hx s q => by
  unfold dMin at q
  split at q
  · obtain ⟨v, w, rfl, h1, h2⟩ := isDs_two hx
    exact ⟨_, _, by rw [isD_int.mp h1, isD_int.mp h2], q.pure xE s _ (isD_int.mpr rfl)⟩
  · exact (bad_no q).elim
theorem c_abs : JC Z (IsDs Z) (IsD Z) (fun xs H Q => ∃ i, xs = [.int i] ∧ Q (.int (if i < 0 then -i else i)) H) dAbs := fun x d Er H p S Q hx s q => by
  unfold dAbs at q
  split at q
  · obtain ⟨v, rfl, h1⟩ := isDs_one hx
    exact ⟨_, by rw [isD_int.mp h1], q.pure xE s _ (isD_int.mpr rfl)⟩
  · exact (bad_no q).elim
theorem c_int : JC Z (IsDs Z) (IsD Z) (fun xs H Q => (∃ i, xs = [.int i] ∧ Q (.int i) H) ∨ ∃ k, xs = [.bl k] ∧ Q (.int (if k then 1 else 0)) H) dInt := fun x d Er H p S Q hx s q => by
  unfold dInt at q
  split at q
  · obtain ⟨v, rfl, h1⟩ := isDs_one hx
    exact .inl ⟨_, by rw [isD_int.mp h1], q.pure xE s _ (isD_int.mpr rfl)⟩
  · obtain ⟨v, rfl, h1⟩ := isDs_one hx
    exact .inr ⟨_, by rw [isD_bl.mp h1], q.pure xE s _ (isD_int.mpr rfl)⟩
  · exact (bad_no q).elim
/-- all, any of a list of truths -/
def blsOf : List Dat → Option (List Bool)
  | [] => some []
  | .bl b :: r => (blsOf r).map (b :: ·)
  | _ => none
theorem blsOf_is {H : Hp} {p : Pl} : ∀ {ds : List Dat} {vs : List V} {bs : List Bool}, IsDs Z H p vs ds → blsOf ds = some bs → vs = bs.map V.bl
  | [], _, _, h, e => by cases e; exact isDs_nil.mp h
  | d :: ds, _, bs, h, e => by
    obtain ⟨v, r, rfl, h1, h2⟩ := isDs_cons.mp h
    cases d with
    | bl b =>
      unfold blsOf at e
      cases z : blsOf ds with
      | none => rw [z] at e; cases e
      | some cs =>
        rw [z] at e
        cases e
        rw [isD_bl.mp h1, blsOf_is h2 z]
        rfl
    | _ => cases e
def dAll (ds : List Dat) : M Dat := match ds with
  | [.lst xs] => M.opt (blsOf xs) >>= fun bs => pure (.bl (bs.all id))
  | _ => M.no
theorem c_all : JCW Z (rAll Z.K) dAll := fun x d Er H p S Q hx s q => by
  unfold dAll at q
  split at q
  · obtain ⟨bs, e, q⟩ := q.opt
    obtain ⟨v, rfl, hv⟩ := isWs_one hx
    obtain ⟨a, vs, rfl, h1, h2⟩ := hv
    exact ⟨a, bs, rfl, by rw [← blsOf_is h2 e]; exact SqL.of h1.1, q.pure xE s _ (isD_bl.mpr rfl)⟩
  · exact (bad_no q).elim
def dTuple (ds : List Dat) : M Dat := match ds with
  | [.lst xs] => pure (.tup xs)
  | [.tup xs] => pure (.tup xs)
  | _ => M.no
theorem c_tuple : JCW Z (fun xs H Q => ∃ p ys, xs = [.ref p] ∧ ((SqL Z.K H p ys ∧ NewT ys H Q) ∨ (SqT Z.K H p ys ∧ Q (.ref p) H))) dTuple := fun x d Er H p S Q hx s q => by
  unfold dTuple at q
  split at q
  · obtain ⟨v, rfl, hv⟩ := isWs_one hx
    obtain ⟨a, vs, rfl, h1, h2⟩ := hv
    exact ⟨a, vs, rfl, .inl ⟨SqL.of h1.1, fun t o nt nd => q.at_new s nt _ (new_tup s nt nd h2)⟩⟩
  · obtain ⟨v, rfl, hv⟩ := isWs_one hx
    obtain ⟨a, vs, rfl, h1, h2⟩ := isD_tup.mp hv
    exact ⟨a, vs, rfl, .inr ⟨h1.sq, q.pure xE s _ hv⟩⟩
  · exact (bad_no q).elim
def dList (ds : List Dat) : M Dat := match ds with
  | [.lst xs] => pure (.lst xs)
  | [.tup xs] => pure (.lst xs)
  | _ => M.no
theorem c_list : JCW Z (fun xs H Q => ∃ p ys, xs = [.ref p] ∧ (SqL Z.K H p ys ∨ SqT Z.K H p ys) ∧ ∀ l, H l = none → Q (.ref l) (L2.upd H l (.lst ys))) dList := fun x d Er H p S Q hx s q => by
  unfold dList at q
  split at q
  · obtain ⟨v, rfl, hv⟩ := isWs_one hx
    obtain ⟨a, vs, rfl, h1, h2⟩ := hv
    exact ⟨a, vs, rfl, .inl (SqL.of h1.1), fun t nt => q.at_new s nt _ (new_lst s nt h2)⟩
  · obtain ⟨v, rfl, hv⟩ := isWs_one hx
    obtain ⟨a, vs, rfl, h1, h2⟩ := isD_tup.mp hv
    exact ⟨a, vs, rfl, .inr h1.sq, fun t nt => q.at_new s nt _ (new_lst s nt h2)⟩
  · exact (bad_no q).elim
/-- isinstance of one built-in class -/
def tyN : Dat → Option String
  | .non => some "NoneType"
  | .bl _ => some "bool"
  | .int _ => some "int"
  | .str _ => some "str"
  | .tup _ => some "tuple"
  | .lst _ => some "list"
  | .dic _ _ => some "dict"
  | _ => none
def dIsi (ds : List Dat) : M Dat := match ds with
  | [d, .ty n] => M.opt ((tyN d).bind fun t => kitB t n) >>= fun b => pure (.bl b)
  | _ => M.no
theorem tyx_of {H : Hp} {p : Pl} {v : V} {d : Dat} {t : String} (h : IsW Z H p v d) (e : tyN d = some t) : TyX Z.K H v (.type t) := by
  cases d with
  | non => cases e; have h : IsD Z H p v .non := h; rw [isD_non.mp h]; exact .base .non
  | bl b => cases e; have h : IsD Z H p v (.bl b) := h; rw [isD_bl.mp h]; exact .base (.bl b)
  | int i => cases e; have h : IsD Z H p v (.int i) := h; rw [isD_int.mp h]; exact .base (.int i)
  | str x => cases e; have h : IsD Z H p v (.str x) := h; rw [isD_str.mp h]; exact .base (.str x)
  | tup ds =>
    cases e
    have h : IsD Z H p v (.tup ds) := h
    obtain ⟨a, vs, rfl, h1, h2⟩ := isD_tup.mp h
    rcases h1.sq (Z := Z) with (h1 | ⟨o, h1⟩) | ⟨o, its, n, h1, h2, _⟩
    · exact .base (.tup h1)
    · exact .fTuple h1
    · exact .kTuple h1 h2
  | lst ds =>
    cases e
    obtain ⟨a, vs, rfl, h1, h2⟩ := h
    exact .base (.lst h1.1)
  | dic ks ds =>
    cases e
    obtain ⟨a, vs, rfl, h1, _⟩ := h
    exact .base (.dK h1.1)
  | _ => cases e
theorem c_isi : JCW Z (rIsi Z.K) dIsi := fun x d Er H p S Q hx s q => by
  unfold dIsi at q
  split at q
  · rename_i d n
    obtain ⟨b, e, q⟩ := q.opt
    cases et : tyN d with
    | none => rw [et] at e; cases e
    | some t =>
      rw [et] at e
      have e : kitB t n = some b := e
      obtain ⟨v, r, rfl, h1, h2⟩ := hx
      obtain ⟨w, rfl, hw⟩ := isDs_one h2
      rw [isD_ty.mp hw]
      exact ⟨v, .ty n, _, _, b, rfl, .ty n, tyx_of h1 et, kit_ty e, q.pure xE s _ (isD_bl.mpr rfl)⟩
  · exact (bad_no q).elim
/-- repr -/
def okShow (y : PyData) : Bool := y.showable && !y.hasDict && decide (y.depth ≤ 64) && decide (y.shown.length ≤ sizeLine) && (match y with | .int i => decide (i.natAbs.log2 < 1920) | _ => true)
end
end Zd
namespace Zd
open PySem PySem.Spec PyProof.Rows L2
/-- what is raised: an error of the class c, its fields ns with the values ds -/
def ErOf (Z : Cz) (E : XK) : ErW := fun c fs _ H α γ => ∀ ns ds, fs = [.obj c ns ds] → ∀ (d : Addr) (H' : Hp) (vs : List V), H d = none → Same H H' → H' d = some (.xd (ns.zip vs)) → ns.length = vs.length → IsDs Z H' ⟨α, [], γ⟩ vs ds → E (.ref (Z.κ c)) (some d) H'
def spD (Z : Cz) (n : Nat) (F : List Dat → M Dat) : Sp := fun vs H Q E => vs.length = n ∧ ∃ (p : Pl) (ds : List Dat) (S : List Dat), p.ω = [] ∧ IsDs Z H p vs ds ∧ IsS Z H p S ∧
  Post Z (ErOf Z E) ExtE (F ds S) H p (fun d _ H' p' => ∀ v, IsD Z H' p' v d → Q v H')
def startE (N : Nat) (ds : List Dat) : Env := ds.map some ++ List.replicate (N - ds.length) none
def outF : Flow → M Dat
  | .rt d => pure d
  | .nx _ => pure .non
  | _ => M.no
def runD (N : Nat) (b : Env → M Flow) (ds : List Dat) : M Dat := b (startE N ds) >>= outF
section
variable {Z : Cz} {Er : ErW} {O : List Nat} {te ta tb : TE} {ts : TS} {tl : TA} {m m1 m2 : Env → M Dat} {ml : Env → M (List Dat)} {ms : Env → M Flow}
theorem IsDs.start {H : Hp} {p : Pl} : ∀ {ds : List Dat} {vs : List V} {i : Nat} {d : Dat} {k l : Nat}, IsDs Z H p vs ds → (ds.map some ++ List.replicate k none)[i]? = some (some d) → i < ds.length ∧ ∃ v, (vs.map some ++ List.replicate l none)[i]? = some (some v) ∧ IsD Z H p v d := by
  intro ds vs i d k l h e
  have hl := h.len
  by_cases c : i < ds.length
  · rw [List.getElem?_append_left (by rw [List.length_map]; exact c), List.getElem?_map] at e
    cases q : ds[i]? with
    | none => rw [q] at e; cases e
    | some x =>
      rw [q] at e
      cases e
      obtain ⟨v, h1, h2⟩ := h.get q
      refine ⟨c, v, ?_, h2⟩
      rw [List.getElem?_append_left (by rw [List.length_map, hl]; exact c), List.getElem?_map, h1]
      rfl
  · rw [List.getElem?_append_right (by rw [List.length_map]; omega)] at e
    rw [List.getElem?_replicate] at e
    split at e <;> cases e
theorem isE_start {H : Hp} {p : Pl} {N : List Str} {ds : List Dat} {vs : List V} (h : IsDs Z H p vs ds) (hO : ∀ i ∈ O, ds.length ≤ i) : IsE Z O H p (L2.start N vs) (startE N.length ds) := by
  have hl := h.len
  refine ⟨?_, fun i d _ q => (h.start q).2, fun i d oi q => ?_, fun i j a oi oj ne hi hj q => ?_⟩
  · unfold L2.start startE
    rw [List.length_append, List.length_append, List.length_map, List.length_map, List.length_replicate, List.length_replicate, hl]
  · have z := (IsDs.start (l := 0) h q).1
    have := hO i oi
    omega
  · obtain ⟨d, hi⟩ := hi
    have z := (IsDs.start (l := 0) h hi).1
    have := hO i oi
    omega
theorem IsW.exit {H : Hp} {p : Pl} {S : List Dat} (s : IsS Z H p S) {v : V} {d : Dat} (h : IsW Z H p v d) : IsD Z H ⟨p.α, [], p.γ⟩ v d := by
  have l2 : ∀ b, (⟨p.α, [], p.γ⟩ : Pl).has b → p.has b := fun b h => h.imp id fun h => .inr (h.resolve_left List.not_mem_nil)
  have k : ∀ (ds : List Dat) {vs : List V}, IsDs Z H p vs ds → IsDs Z H ⟨p.α, [], p.γ⟩ vs ds := fun ds _ h => IsDs.less (p := p) (p' := ⟨p.α, [], p.γ⟩) rfl l2 _ h
  have nh : ∀ {a : Addr}, a ∉ p.α → a ∉ p.γ → ¬ (⟨p.α, [], p.γ⟩ : Pl).has a := fun h1 h2 h => h.elim h1 fun h => h.elim List.not_mem_nil h2
  cases d with
  | lst ds => obtain ⟨a, vs, rfl, ⟨h1, n1, n2⟩, h2⟩ := h; exact isD_lst.mpr ⟨a, vs, rfl, ⟨h1, nh n1 n2⟩, k _ h2⟩
  | dic ks ds => obtain ⟨a, vs, rfl, ⟨h1, n1, n2⟩, hl, h2⟩ := h; exact isD_dic.mpr ⟨a, vs, rfl, ⟨h1, nh n1 n2⟩, hl, k _ h2⟩
  | obj c fs ds => obtain ⟨a, vs, rfl, ⟨h1, n1, n2⟩, hl, h2⟩ := h; exact isD_obj.mpr ⟨a, vs, rfl, ⟨h1, nh n1 n2⟩, hl, k _ h2⟩
  | non => exact IsD.less (p := p) (p' := ⟨p.α, [], p.γ⟩) rfl l2 _ h
  | bl b => exact IsD.less (p := p) (p' := ⟨p.α, [], p.γ⟩) rfl l2 _ h
  | int i => exact IsD.less (p := p) (p' := ⟨p.α, [], p.γ⟩) rfl l2 _ h
  | str x => exact IsD.less (p := p) (p' := ⟨p.α, [], p.γ⟩) rfl l2 _ h
  | tup ds => exact IsD.less (p := p) (p' := ⟨p.α, [], p.γ⟩) rfl l2 _ h
  | loc n => exact IsD.less (p := p) (p' := ⟨p.α, [], p.γ⟩) rfl l2 _ h
  | ty n => exact IsD.less (p := p) (p' := ⟨p.α, [], p.γ⟩) rfl l2 _ h
  | cls n => exact IsD.less (p := p) (p' := ⟨p.α, [], p.γ⟩) rfl l2 _ h
  | scr n => exact IsD.less (p := p) (p' := ⟨p.α, [], p.γ⟩) rfl l2 _ h
/-- from the entry (H0, p0) to a frame's end -/
theorem Post.exit {α : Type} {o : Out α} {H0 H : Hp} {p0 p : Pl} {C : α → List Dat → Hp → Pl → Prop} (q : Post Z Er ExtE o H0 p0 C) (h0 : p0.ω = []) (e0 : Ext H0 p0 H p) : Post Z Er Ext o H p (fun a S' H' p' => C a S' H' ⟨p'.α, [], p'.γ⟩) := by
  have key : ∀ H' p' S', Ext H p H' p' → IsS Z H' p' S' → ExtE H0 p0 H' ⟨p'.α, [], p'.γ⟩ ∧ IsS Z H' ⟨p'.α, [], p'.γ⟩ S' := fun H' p' S' e s => by
    have e2 := e0.trans e
    refine ⟨⟨e2.α, h0.symm, e2.γ, fun a o h n => e2.k a o h n (by rw [h0]; exact List.not_mem_nil), e2.t⟩, s.less fun a h => absurd h List.not_mem_nil⟩
  unfold Post at q ⊢
  cases o with
  | ok a S2 => exact fun H' p' e s => q H' ⟨p'.α, [], p'.γ⟩ (key H' p' S2 e s).1 (key H' p' S2 e s).2
  | er a b S2 => exact fun H' p' e s => q H' ⟨p'.α, [], p'.γ⟩ (key H' p' S2 e s).1 (key H' p' S2 e s).2
  | bad => exact q
/-- THE RULE: a body's reading from what it does with trees -/
theorem ok_body {N : List Str} {n : Nat} {vs : List V} {H : Hp} {Q : VK} {E : XK} (hj : JS Z (ErOf Z E) O ts ms) (hO : ∀ i ∈ O, n ≤ i) (h : spD Z n (runD N.length ms) vs H Q E) : ts { nx := fun _ H' => Q .non H', rt := Q } (L2.start N vs) H := by
  obtain ⟨hl, p, ds, S, h0, hd, hS, q⟩ := h
  refine hj (L2.start N vs) H p (startE N.length ds) S _ (isE_start hd fun i oi => by rw [← hd.len, hl]; exact hO i oi) hS ?_
  have q2 := (q.exit h0 Ext.refl).bnd xS
  refine q2.mono fun f S' H' p' e s q3 => ?_
  cases f with
  | rt d => exact fun v hv => Post.pure xS q3 s v (hv.exit s)
  | nx ρ => exact fun σ hσ => Post.pure xS q3 s .non (isD_non.mpr rfl)
  | bk ρ => exact (bad_no (S := S') q3).elim
  | ct ρ => exact (bad_no (S := S') q3).elim
/-- what is raised is not spoken of -/
def calm {α : Type} (m : M α) : M α := fun S => match m S with
  | .ok a S' => .ok a S'
  | _ => .bad
theorem Post.never {α : Type} {o : Out α} {H : Hp} {p : Pl} {X : XR} {C : α → List Dat → Hp → Pl → Prop} (q : Post Z (fun _ _ _ _ _ _ => False) X o H p C) (Er' : ErW) : Post Z Er' X o H p C := by
  unfold Post at q ⊢
  cases o with
  | ok a S' => exact q
  | er c fs S' => exact fun H' p' e s => (q H' p' e s).elim
  | bad => exact q
theorem Post.calm {α : Type} {m : M α} {S : List Dat} {H : Hp} {p : Pl} {X : XR} {C : α → List Dat → Hp → Pl → Prop} (q : Post Z Er X (Zd.calm m S) H p C) (Er' : ErW) : Post Z Er' X (m S) H p C := by
  unfold Zd.calm at q
  cases z : m S with
  | ok a S' => rw [z] at q; exact q
  | er c fs S' => rw [z] at q; exact q.elim
  | bad => rw [z] at q; exact q.elim
def xCall (F : List Dat → M Dat) (l : Env → M (List Dat)) (ρ : Env) : M Dat := l ρ >>= fun ds => calm (F ds)
/-- the callee may not touch the caller's own places -/
def Pl.shut (p : Pl) : Pl := ⟨p.α, [], p.γ ++ p.ω⟩
theorem shut_has {p : Pl} {a : Addr} : p.shut.has a ↔ p.has a := by
  unfold Pl.shut Pl.has
  constructor
  · rintro (h | h | h)
    · exact .inl h
    · exact absurd h List.not_mem_nil
    · exact .inr ((List.mem_append.mp h).symm)
  · rintro (h | h | h)
    · exact .inl h
    · exact .inr (.inr (List.mem_append_right _ h))
    · exact .inr (.inr (List.mem_append_left _ h))
theorem IsS.shut {H : Hp} {p : Pl} {S : List Dat} (s : IsS Z H p S) : IsS Z H p.shut S :=
  ⟨s.len, s.nd, fun a h => absurd h List.not_mem_nil, fun a h => (List.mem_append.mp h).elim (s.dg a) fun h => (s.dj a h).1, fun a h => s.wt a (h.elim (fun h => absurd h List.not_mem_nil) fun h => (List.mem_append.mp h).symm),
    fun n a d h1 h2 => IsTop.less (p := p) (p' := p.shut) rfl (fun a h => shut_has.mp h) (s.at_ n a d h1 h2)⟩
theorem Post.shut {α : Type} {o : Out α} {H : Hp} {p : Pl} {C : α → List Dat → Hp → Pl → Prop} (hS : ∀ a ∈ p.ω, a ∉ p.γ) (nd : ∀ a ∈ p.ω, H a ≠ none) (q : Post Z Er ExtE o H p C) (hEr : ∀ c fs S H α γ, Er c fs S H α γ → False) :
    Post Z Er ExtE o H p.shut (fun a S' H' p' => C a S' H' ⟨p'.α, p.ω, p.γ⟩) := by
  have key : ∀ H' p' S', ExtE H p.shut H' p' → IsS Z H' p' S' → ExtE H p H' ⟨p'.α, p.ω, p.γ⟩ ∧ IsS Z H' ⟨p'.α, p.ω, p.γ⟩ S' := fun H' p' S' e s => by
    have eg : p'.γ = p.γ ++ p.ω := e.γ
    have ew : p'.ω = [] := e.ω
    refine ⟨⟨e.α, rfl, rfl, e.k, e.t⟩, ⟨s.len, s.nd, fun a h => ⟨s.dg a (by rw [eg]; exact List.mem_append_right _ h), hS a h⟩, fun a h => s.dg a (by rw [eg]; exact List.mem_append_left _ h), fun a h => s.wt a (.inr (by rw [eg]; exact h.elim (List.mem_append_right _) (List.mem_append_left _))), fun n a d h1 h2 => IsTop.less (p := p') (p' := ⟨p'.α, p.ω, p.γ⟩) rfl (fun b hb => ?_) (s.at_ n a d h1 h2)⟩⟩
    rcases hb with hb | hb | hb
    · exact .inl hb
    · exact .inr (.inr (by rw [eg]; exact List.mem_append_right _ hb))
    · exact .inr (.inr (by rw [eg]; exact List.mem_append_left _ hb))
  unfold Post at q ⊢
  cases o with
  | ok a S2 => exact fun H' p' e s => q H' ⟨p'.α, p.ω, p.γ⟩ (key H' p' S2 e s).1 (key H' p' S2 e s).2
  | er a b S2 => exact fun H' p' e s => (hEr _ _ _ _ _ _ (q H' ⟨p'.α, p.ω, p.γ⟩ (key H' p' S2 e s).1 (key H' p' S2 e s).2)).elim
  | bad => exact q
theorem IsDs.shut {H : Hp} {p : Pl} {vs : List V} {ds : List Dat} (h : IsDs Z H p vs ds) : IsDs Z H p.shut vs ds := IsDs.less (p := p) (p' := p.shut) rfl (fun a h => shut_has.mp h) _ h
theorem IsD.unshut {H : Hp} {p p' : Pl} (eg : p'.γ = p.γ ++ p.ω) (ew : p'.ω = []) {v : V} {d : Dat} (h : IsD Z H p' v d) : IsD Z H ⟨p'.α, p.ω, p.γ⟩ v d := IsD.less (p := p') (p' := ⟨p'.α, p.ω, p.γ⟩) rfl (fun b hb => by
    rcases hb with hb | hb | hb
    · exact .inl hb
    · exact .inr (.inr (by rw [eg]; exact List.mem_append_right _ hb))
    · exact .inr (.inr (by rw [eg]; exact List.mem_append_left _ hb))) _ h
/-- what a call asks of its promise -/
theorem call_sp {F : List Dat → M Dat} {n : Nat} {H : Hp} {p : Pl} {S : List Dat} {vs : List V} {ds : List Dat} {Q : VK} {E : XK} (hn : vs.length = n) (hd : IsDs Z H p vs ds) (hS : IsS Z H p S) (q : Post Z Er ExtE (calm (F ds) S) H p (fun d _ H' p' => ∀ v, IsD Z H' p' v d → Q v H')) : spD Z n F vs H Q E := by
  refine ⟨hn, p.shut, ds, S, rfl, hd.shut, hS.shut, ?_⟩
  have z := (q.calm (fun _ _ _ _ _ _ => False)).shut (fun a h => (hS.dj a h).2) (fun a h => hS.wt a (.inl h)) (fun _ _ _ _ _ _ h => h)
  exact (z.mono fun d S' H' p' e s k v hv => k v (hv.unshut e.γ e.ω)).never (ErOf Z E)
theorem len_nil {ρ : Env} {S ds S' : List Dat} (h : xNil ρ S = .ok ds S') : ds.length = 0 := by cases h; rfl
theorem len_cons {a : Env → M Dat} {l : Env → M (List Dat)} {n : Nat} (hl : ∀ ρ S ds S', l ρ S = .ok ds S' → ds.length = n) : ∀ ρ S ds S', xCons a l ρ S = .ok ds S' → ds.length = n + 1 := fun ρ S ds S' h => by
  unfold xCons at h
  rw [m_bind] at h
  cases z : a ρ S with
  | ok x S1 =>
    rw [z] at h
    simp only [m_bind] at h
    cases z2 : l ρ S1 with
    | ok xs S3 =>
      rw [z2] at h
      cases h
      exact congrArg (· + 1) (hl ρ S1 xs _ z2)
    | er c fs S2 => rw [z2] at h; cases h
    | bad => rw [z2] at h; cases h
  | er c fs S1 => rw [z] at h; cases h
  | bad => rw [z] at h; cases h
def lkD (f : Str) : List Str → List Dat → Option Dat
  | g :: gs, d :: ds => if f == g then some d else lkD f gs ds
  | _, _ => none
def putN (f : Str) : List Str → List Str
  | [] => [f]
  | g :: gs => if g = f then g :: gs else g :: putN f gs
def putV (f : Str) (x : Dat) : List Str → List Dat → List Dat
  | [], _ => [x]
  | g :: gs, d :: ds => if g = f then x :: ds else d :: putV f x gs ds
  | _ :: _, [] => []
theorem lk_rel {H : Hp} {p : Pl} {f : Str} : ∀ {gs : List Str} {ds : List Dat} {vs : List V} {d : Dat}, IsDs Z H p vs ds → lkD f gs ds = some d → ∃ v, (gs.zip vs).lookup f = some v ∧ IsD Z H p v d
  | [], ds, _, d, _, e => by cases ds <;> cases e
  | g :: gs, [], _, d, h, e => by cases e
  | g :: gs, c :: ds, _, d, h, e => by
    obtain ⟨v, r, rfl, h1, h2⟩ := isDs_cons.mp h
    unfold lkD at e
    rw [List.zip_cons_cons, List.lookup_cons]
    cases q : f == g with
    | true =>
      rw [q, if_pos rfl] at e
      cases e
      exact ⟨v, rfl, h1⟩
    | false =>
      rw [q] at e
      exact lk_rel h2 e
theorem put_rel {H : Hp} {p : Pl} {f : Str} {x : Dat} {y : V} (hx : IsD Z H p y x) : ∀ {gs : List Str} {ds : List Dat} {vs : List V}, gs.length = vs.length → IsDs Z H p vs ds → ∃ ws, putF f y (gs.zip vs) = (putN f gs).zip ws ∧ (putN f gs).length = ws.length ∧ IsDs Z H p ws (putV f x gs ds)
  | [], ds, vs, hl, h => by
    have e : vs = [] := List.length_eq_zero_iff.mp hl.symm
    subst e
    exact ⟨[y], rfl, rfl, .one hx⟩
  | g :: gs, [], vs, hl, h => by rw [isDs_nil.mp h] at hl; cases hl
  | g :: gs, c :: ds, _, hl, h => by
    obtain ⟨v, r, rfl, h1, h2⟩ := isDs_cons.mp h
    unfold putN putV
    rw [List.zip_cons_cons]
    unfold putF
    by_cases c : g = f
    · rw [if_pos c, if_pos c, if_pos c]
      exact ⟨y :: r, rfl, hl, isDs_cons.mpr ⟨y, r, rfl, hx, h2⟩⟩
    · rw [if_neg c, if_neg c, if_neg c]
      obtain ⟨ws, e1, e2, e3⟩ := put_rel (f := f) hx (gs := gs) (ds := ds) (vs := r) (Nat.succ.inj hl) h2
      exact ⟨v :: ws, by rw [List.zip_cons_cons, e1], by rw [List.length_cons, List.length_cons, e2], isDs_cons.mpr ⟨v, ws, rfl, h1, e3⟩⟩
/-- the attributes of the class c -/
structure ClsT (Z : Cz) (c : String) (fs : List Str) : Prop where
  cl : Cls Z.K (Z.κ c)
  no : ∀ f ∈ fs, NoAttr Z.K (Z.κ c) f
def locAt (ρ : Env) (i : Nat) : Option Nat := match ρ[i]? with
  | some (some (.loc n)) => some n
  | _ => none
theorem locAt_is {ρ : Env} {i : Nat} {n : Nat} (h : locAt ρ i = some n) : ρ[i]? = some (some (.loc n)) := by
  unfold locAt at h
  split at h
  · cases h; assumption
  · cases h
def one {α : Type} : List α → Option α
  | [d] => some d
  | _ => none
theorem one_is {α : Type} {ds : List α} {d : α} (h : one ds = some d) : ds = [d] := by
  unfold one at h
  split at h
  · cases h; rfl
  · cases h
def dInt1 : Dat → Option Int
  | .int i => some i
  | _ => none
theorem dInt1_is {d : Dat} {i : Int} (h : dInt1 d = some i) : d = .int i := by
  cases d <;> first | (cases h; rfl) | cases h
theorem loc_put {H : Hp} {p : Pl} {S : List Dat} (s : IsS Z H p S) {n : Nat} {a : Addr} {o : HO} {d : Dat} (ha : p.α[n]? = some a) (ht : IsTop Z (L2.upd H a o) p a d) : ExtE H p (L2.upd H a o) p ∧ IsS Z (L2.upd H a o) p (S.set n d) := by
  have ma : a ∈ p.α := List.mem_of_getElem? ha
  have e : ExtE H p (L2.upd H a o) p := ⟨⟨[], by simp⟩, rfl, rfl, fun b u h n => by rw [upd_ne fun z => n (by rw [z]; exact ma)]; exact h, fun b h => by
    by_cases c : b = a
    · rw [c, upd_same]; exact nofun
    · rw [upd_ne c]; exact h⟩
  refine ⟨e, ⟨by rw [List.length_set]; exact s.len, s.nd, s.dj, s.dg, fun b h => e.t b (s.wt b h), fun k b x h1 h2 => ?_⟩⟩
  by_cases c : n = k
  · subst c
    rw [ha] at h1
    cases h1
    rw [List.getElem?_set_self (by rw [← s.len]; exact (List.getElem?_eq_some_iff.mp ha).1)] at h2
    cases h2
    exact ht
  · rw [List.getElem?_set_ne c] at h2
    refine (s.at_ k b x h1 h2).ext e.s fun u z => ?_
    rw [upd_ne fun q => c ?_]
    · exact z
    · subst q
      have l1 := (List.getElem?_eq_some_iff.mp ha)
      have l2 := (List.getElem?_eq_some_iff.mp h1)
      obtain ⟨i1, g1⟩ := l1
      obtain ⟨i2, g2⟩ := l2
      exact (List.getElem_inj s.nd).mp (g1.trans g2.symm)
/-- x[i] = e, x a shared list in slot j -/
def setLo (n : Nat) (k : Int) (x : Dat) (ρ : Env) : M Flow := fun S => match S[n]? with
  | some (.lst xs) => match ixN xs.length k with
    | some q => .ok (.nx ρ) (S.set n (.lst (xs.set q x)))
    | none => .bad
  | _ => .bad
def sSetLo (j : Nat) (b a : Env → M Dat) (ρ : Env) : M Flow := a ρ >>= fun x => M.opt (locAt ρ j) >>= fun n => b ρ >>= fun i => M.opt (dInt1 i) >>= fun k => setLo n k x ρ
theorem js_setLo {j : Nat} (nj : j ∉ O) (hb : JD Z Er O tb m2) (ha : JD Z Er O ta m1) : JS Z Er O (tAsg ta (gSub (tVar j) tb rSetL)) (sSetLo j m2 m1) := fun σ H p ρ S D hE hS q =>
  ha σ H p ρ S _ hE hS (q.bndE.mono fun d S1 H1 p1 e1 s1 q1 v hv => by
    have hE1 := hE.ext e1 hS
    obtain ⟨n, eo, q1⟩ := Post.opt q1
    have eρ := locAt_is eo
    obtain ⟨u, h1, h2⟩ := hE1.get j _ nj eρ
    refine ⟨u, h1, ?_⟩
    refine hb σ H1 p1 ρ S1 _ hE1 s1 (q1.bndE.mono fun i S2 H2 p2 e2 s2 q2 w hw => ?_)
    obtain ⟨k, ek, q2⟩ := Post.opt q2
    rw [dInt1_is ek] at hw
    obtain ⟨a, rfl, hα⟩ := isD_loc.mp (h2.ext e2.s)
    cases eS : S2[n]? with
    | none => unfold setLo at q2; rw [eS] at q2; exact q2.elim
    | some dd =>
      cases dd with
      | lst xs =>
        cases ey : ixN xs.length k with
        | none => unfold setLo at q2; rw [eS] at q2; simp only [ey] at q2; exact q2.elim
        | some y =>
          have q3 : Post Z Er Ext (.ok (Flow.nx ρ) (S2.set n (.lst (xs.set y d)))) H2 p2 (fun f x H' p' => FlowOk Z O D f H' p') := by
            unfold setLo at q2; rw [eS] at q2; simp only [ey] at q2; exact q2
          obtain ⟨vs, g1, g2⟩ := s2.at_ n a _ hα eS
          refine ⟨a, vs, k, y, rfl, isD_int.mp hw, g1, by rw [g2.len]; exact ey, ?_⟩
          have ma : a ∈ p2.α := List.mem_of_getElem? hα
          have eX : Ext H2 p2 (L2.upd H2 a (.lst (vs.set y v))) p2 := ⟨⟨[], by simp⟩, ⟨[], by simp⟩, rfl, fun b u h n _ => by rw [upd_ne fun z => n (by rw [z]; exact ma)]; exact h, fun b h => by
              by_cases c : b = a
              · rw [c, upd_same]; exact nofun
              · rw [upd_ne c]; exact h⟩
          obtain ⟨e3, s3⟩ := loc_put (o := .lst (vs.set y v)) (d := .lst (xs.set y d)) s2 hα ⟨vs.set y v, upd_same, (g2.set y (hv.ext e2.s)).ext eX⟩
          exact q3 _ _ e3.s s3 σ ((hE1.ext e2 s1).ext e3 s2)
      | _ => unfold setLo at q2; rw [eS] at q2; exact q2.elim)
/-- a new list that is given back to be shared -/
def sRetLo (a : Env → M Dat) (ρ : Env) : M Flow := a ρ >>= fun d => fun S => .ok (.rt (.loc S.length)) (S ++ [d])
theorem js_retLo (h : JF Z Er O ta m) : JS Z Er O (tRet ta) (sRetLo m) := fun σ H p ρ S D hE hS q =>
  h σ H p ρ S _ hE hS ((q.bndK.of xS).mono fun d S1 H1 p1 e1 s1 q1 a na na1 nh hs ht => by
    have q2 : ∀ H' p', Ext H p H' p' → IsS Z H' p' (S1 ++ [d]) → FlowOk Z O D (.rt (.loc S1.length)) H' p' := q1
    have l2 : ∀ b, (⟨p1.α ++ [a], p1.ω, p1.γ⟩ : Pl).has b → (⟨p1.α, p1.ω ++ [a], p1.γ⟩ : Pl).has b := fun b h => by
      rcases h with h | h | h
      · rcases List.mem_append.mp h with h | h
        · exact .inl h
        · exact .inr (.inl (List.mem_append_right _ h))
      · exact .inr (.inl (List.mem_append_left _ h))
      · exact .inr (.inr h)
    have na1 : a ∉ p1.α := fun z => nh (.inl z)
    have ma : a ∈ p1.ω ++ [a] := List.mem_append_right _ (List.mem_singleton.mpr rfl)
    have hα : (p1.α ++ [a])[S1.length]? = some a := by rw [← hs.len]; simp
    refine q2 H1 ⟨p1.α ++ [a], p1.ω, p1.γ⟩ ⟨?_, ⟨[], by rw [List.append_nil]; exact e1.ω, by simp⟩, e1.γ, fun b u z n _ => e1.k b u z n, e1.t⟩ ⟨?_, ?_, fun b h => ⟨fun z => ?_, (hs.dj b (List.mem_append_left _ h)).2⟩, fun b h z => ?_, fun b h => hs.wt b (h.imp (List.mem_append_left _) id), fun n b x h1 h2 => ?_⟩ (.ref a) ?_
    · obtain ⟨β, g1, g2⟩ := e1.α
      refine ⟨β ++ [a], by rw [g1, List.append_assoc], fun b h => ?_⟩
      rcases List.mem_append.mp h with h | h
      · exact g2 b h
      · rw [List.mem_singleton.mp h]; exact na
    · rw [List.length_append, List.length_append, hs.len]; rfl
    · exact List.nodup_append.mpr ⟨hs.nd, by simp, fun b h c h2 e => na1 (by rw [← List.mem_singleton.mp h2, ← e]; exact h)⟩
    · rcases List.mem_append.mp z with z | z
      · exact (hs.dj b (List.mem_append_left _ h)).1 z
      · exact nh (.inr (.inl (by rw [← List.mem_singleton.mp z]; exact h)))
    · rcases List.mem_append.mp z with z | z
      · exact hs.dg b h z
      · exact nh (.inr (.inr (by rw [← List.mem_singleton.mp z]; exact h)))
    · have mv : ∀ (n : Nat) (x : Addr), p1.α[n]? = some x → (p1.α ++ [a])[n]? = some x := fun n x h => by
        rw [List.getElem?_append_left (List.getElem?_eq_some_iff.mp h).1]; exact h
      by_cases c : n < S1.length
      · rw [List.getElem?_append_left c] at h2
        rw [List.getElem?_append_left (by rw [hs.len]; exact c)] at h1
        exact IsTop.mv (p := ⟨p1.α, p1.ω ++ [a], p1.γ⟩) (p' := ⟨p1.α ++ [a], p1.ω, p1.γ⟩) mv l2 (hs.at_ n b x h1 h2)
      · have lt := (List.getElem?_eq_some_iff.mp h2).1
        rw [List.length_append, List.length_singleton] at lt
        have e : n = S1.length := by omega
        subst e
        rw [hα] at h1
        cases h1
        rw [List.getElem?_append_right (Nat.le_refl _), Nat.sub_self] at h2
        cases h2
        exact IsTop.mv (p := ⟨p1.α, p1.ω ++ [a], p1.γ⟩) (p' := ⟨p1.α ++ [a], p1.ω, p1.γ⟩) mv l2 ht
    · exact (isD_loc (Z := Z) (H := H1) (p := ⟨p1.α ++ [a], p1.ω, p1.γ⟩)).mpr ⟨a, rfl, hα⟩)
end
end Zd
namespace Zd
open PySem PySem.Spec PyProof.Rows L2
section
variable {Z : Cz} {Er : ErW} {O : List Nat} {te ta tb : TE} {ts : TS} {tl : TA} {m m1 m2 : Env → M Dat} {ml : Env → M (List Dat)} {ms : Env → M Flow}
theorem push_loc {H : Hp} {p : Pl} {S : List Dat} {x dx C : Addr} (s : IsS Z H p S) (nx : H x = none) (nd : H dx = none) (ne : dx ≠ x) (c : String) (hC : C = Z.κ c) :
    ExtE H p (L2.upd (L2.upd H dx (.own x)) x (.ins C dx [])) ⟨p.α ++ [x], p.ω, p.γ⟩ ∧ IsS Z (L2.upd (L2.upd H dx (.own x)) x (.ins C dx [])) ⟨p.α ++ [x], p.ω, p.γ⟩ (S ++ [.obj c [] []]) := by
  subst hC
  have hx := no_has s nx
  have k : ∀ a o, H a = some o → L2.upd (L2.upd H dx (.own x)) x (.ins (Z.κ c) dx []) a = some o := fun a o h => by
    rw [upd_ne (ne_of_none h nx), upd_ne (ne_of_none h nd)]; exact h
  have t : ∀ a, H a ≠ none → L2.upd (L2.upd H dx (.own x)) x (.ins (Z.κ c) dx []) a ≠ none := fun a h => by
    cases z : H a with
    | none => exact absurd z h
    | some o => rw [k a o z]; exact nofun
  have e : ExtE H p (L2.upd (L2.upd H dx (.own x)) x (.ins (Z.κ c) dx [])) ⟨p.α ++ [x], p.ω, p.γ⟩ := ⟨⟨[x], rfl, fun b h => by rw [List.mem_singleton.mp h]; exact nx⟩, rfl, rfl, fun a o h _ => k a o h, t⟩
  refine ⟨e, ⟨by rw [List.length_append, List.length_append, s.len]; rfl, List.nodup_append.mpr ⟨s.nd, by simp, fun b h c h2 e => hx (.inl (by rw [← List.mem_singleton.mp h2, ← e]; exact h))⟩, fun b h => ⟨fun z => ?_, (s.dj b h).2⟩, fun b h z => ?_, fun b h => t b (s.wt b h), fun n b d h1 h2 => ?_⟩⟩
  · rcases List.mem_append.mp z with z | z
    · exact (s.dj b h).1 z
    · exact hx (.inr (.inl (by rw [← List.mem_singleton.mp z]; exact h)))
  · rcases List.mem_append.mp z with z | z
    · exact s.dg b h z
    · exact hx (.inr (.inr (by rw [← List.mem_singleton.mp z]; exact h)))
  · by_cases q : n < S.length
    · rw [List.getElem?_append_left q] at h2
      have h1 : (p.α ++ [x])[n]? = some b := h1
      rw [List.getElem?_append_left (by rw [s.len]; exact q)] at h1
      exact (s.at_ n b d h1 h2).ext e.s fun o z => k b o z
    · have lt := (List.getElem?_eq_some_iff.mp h2).1
      rw [List.length_append, List.length_singleton] at lt
      have en : n = S.length := by omega
      subst en
      have h1 : (p.α ++ [x])[S.length]? = some b := h1
      rw [← s.len] at h1
      simp only [List.getElem?_append_right (Nat.le_refl _), Nat.sub_self] at h1 h2
      cases h1
      cases h2
      exact ⟨dx, [], upd_same, rfl, isDs_nil.mpr rfl⟩
def newObj (c : String) : M Dat := fun S => .ok (.loc S.length) (S ++ [.obj c [] []])
/-- C(..): __init__ at a new shared place -/
def mkNew (c : String) (F : List Dat → M Dat) (ds : List Dat) : M Dat := newObj c >>= fun o => calm (F (o :: ds)) >>= fun r => M.need (isNon r) >>= fun _ => pure o
theorem isNon_is {d : Dat} (h : isNon d = true) : d = .non := by cases d <;> first | rfl | cases h
def getO (S : List Dat) (n : Nat) : Option (String × List Str × List Dat) := match S[n]? with
  | some (.obj c fs ds) => some (c, fs, ds)
  | _ => none
theorem getO_is {S : List Dat} {n : Nat} {c : String} {fs : List Str} {ds : List Dat} (h : getO S n = some (c, fs, ds)) : S[n]? = some (.obj c fs ds) := by
  unfold getO at h
  split at h
  · cases h; assumption
  · cases h
/-- self.f = e, self a shared place -/
def setF (n : Nat) (c : String) (f : Str) (x : Dat) (ρ : Env) : M Flow := fun S => (M.opt (getO S n) >>= fun o => M.need (decide (o.1 = c) && decide (o.2.1.length < 1000)) >>= fun _ => fun S => .ok (.nx ρ) (S.set n (.obj o.1 (putN f o.2.1) (putV f x o.2.1 o.2.2)))) S
def dLoc : Dat → Option Nat
  | .loc n => some n
  | _ => none
theorem dLoc_is {d : Dat} {n : Nat} (h : dLoc d = some n) : d = .loc n := by
  cases d <;> first | (cases h; rfl) | cases h
def sSetFL (c : String) (f : Str) (o a : Env → M Dat) (ρ : Env) : M Flow := a ρ >>= fun x => o ρ >>= fun y => M.opt (dLoc y) >>= fun n => setF n c f x ρ
theorem loc_ext {H : Hp} {p : Pl} {a : Addr} {o : HO} (ma : a ∈ p.α) : Ext H p (L2.upd H a o) p := ⟨⟨[], by simp⟩, ⟨[], by simp⟩, rfl, fun b u h n _ => by rw [upd_ne fun z => n (by rw [z]; exact ma)]; exact h, fun b h => by
  by_cases c : b = a
  · rw [c, upd_same]; exact nofun
  · rw [upd_ne c]; exact h⟩
theorem js_setFL {c : String} {f : Str} {fs : List Str} (T : ClsT Z c fs) (hf : f ∈ fs) (ho : JD Z Er O ta m1) (h : JD Z Er O te m) : JS Z Er O (sFld Z.K ta te f) (sSetFL c f m1 m) := fun σ H p ρ S D hE hS q =>
  h σ H p ρ S _ hE hS (q.bndE.mono fun d S1 H1 p1 e1 s1 q1 v hv => ho σ H1 p1 ρ S1 _ (hE.ext e1 hS) s1 (q1.bndE.mono fun o S2 H2 p2 e2 s2 q2 w hw => by
    obtain ⟨n, en, q2⟩ := Post.opt q2
    rw [dLoc_is en] at hw
    obtain ⟨a, rfl, ha⟩ := isD_loc.mp hw
    have q3 : Post Z Er Ext ((M.opt (getO S2 n) >>= fun o => M.need (decide (o.1 = c) && decide (o.2.1.length < 1000)) >>= fun _ => fun S => .ok (Flow.nx ρ) (S.set n (.obj o.1 (putN f o.2.1) (putV f d o.2.1 o.2.2)))) S2) H2 p2 _ := q2
    obtain ⟨⟨c', gs, ds⟩, eo, q3⟩ := Post.opt q3
    obtain ⟨ec, q4⟩ := Post.need q3
    simp only [Bool.and_eq_true, decide_eq_true_eq] at ec
    obtain ⟨ec, few⟩ := ec
    subst ec
    obtain ⟨dx, vs, g1, hl, g2⟩ := s2.at_ n a _ ha (getO_is eo)
    refine ⟨a, _, dx, _, rfl, g1, T.cl, T.no f hf, by rw [List.length_zip, ← hl, Nat.min_self]; exact few, ?_⟩
    obtain ⟨ws, k1, k2, k3⟩ := put_rel (f := f) (hv.ext e2.s) hl g2
    rw [k1]
    obtain ⟨e3, s3⟩ := loc_put (o := .ins (Z.κ c') dx ((putN f gs).zip ws)) (d := .obj c' (putN f gs) (putV f d gs ds)) s2 ha ⟨dx, ws, upd_same, k2, k3.ext (loc_ext (List.mem_of_getElem? ha))⟩
    exact q4 _ _ e3.s s3 σ (((hE.ext e1 hS).ext e2 s1).ext e3 s2)))
def rOwnI (C : Addr) (sp : Sp) (E : XK) : L2.R2 := fun x y H Q => ∃ a dx fs b dy gs, x = .ref a ∧ y = .ref b ∧ H a = some (.ins C dx fs) ∧ H b = some (.ins C dy gs) ∧ sp [x, y] H Q E
/-- isinstance(x, c), x an instance of the class c -/
structure InsT (Z : Cz) (c : String) : Prop where
  cl : Cls Z.K (Z.κ c)
  ha : PySem.W.findIn Z.K (.ref (Z.κ c)) "__class__" = some (some (.builtin "object.__class__"))
  hn : PySem.W.specialIn Z.K (.builtin "object.__class__") "__get__" = some (some (.builtin "getset_descriptor.__get__"))
  htk : PySem.W.takesIn Z.K (.builtin "object.__class__") = some true
  hm : PySem.W.mroIn Z.K (Z.κ c) (.type "object") = some true
  me : PySem.W.kitOne Z.K (.ref (Z.κ c)) (.ref (Z.κ c)) = some true
def sT : Dat → Option Str
  | .str x => some x
  | _ => none
theorem sT_is {d : Dat} {x : Str} (h : sT d = some x) : d = .str x := by cases d <;> first | (cases h; rfl) | cases h
def dM0' (f : Str → Bool) (d : Dat) : M Dat := M.opt (sT d) >>= fun x => pure (.bl (f x))
theorem j_m0 {r : V → List V → Hp → VK → Prop} {f : Str → Bool} (hr : ∀ x H (Q : VK), Q (.bl (f x)) H → r (.str x) [] H Q) (h : JD Z Er O ta m) : JD Z Er O (tM0 r ta) (xUn (dM0' f) m) := fun σ H p ρ S Q hE hS q =>
  h σ H p ρ S _ hE hS ((q.bnd xE).mono fun d S1 H1 p1 e1 s1 q1 v hv => by
    obtain ⟨x, ex, q1⟩ := Post.opt q1
    rw [sT_is ex] at hv
    rw [isD_str.mp hv]
    exact ⟨⟨x, rfl⟩, hr x H1 Q (q1.pure xE s1 _ (isD_bl.mpr rfl))⟩)
/-- d[k] of a dict -/
def lkK (k : Key) : List Key → List Dat → Option Dat
  | g :: gs, d :: ds => if decide (g = k) = true then some d else lkK k gs ds
  | _, _ => none
def keyD : Dat → Option Key
  | .int i => some (.inl i)
  | .str x => some (.inr x)
  | _ => none
theorem lkK_rel {H : Hp} {p : Pl} {k : Key} : ∀ {gs : List Key} {ds : List Dat} {vs : List V} {d : Dat}, IsDs Z H p vs ds → lkK k gs ds = some d → ∃ v, valV (gs.zip vs) k = some v ∧ IsD Z H p v d
  | [], ds, _, d, _, e => by cases ds <;> cases e
  | g :: gs, [], _, d, h, e => by cases e
  | g :: gs, c :: ds, _, d, h, e => by
    obtain ⟨v, r, rfl, h1, h2⟩ := isDs_cons.mp h
    unfold lkK at e
    rw [List.zip_cons_cons]
    by_cases q : g = k
    · rw [if_pos (decide_eq_true q)] at e
      cases e
      exact ⟨v, valV_pos q, h1⟩
    · rw [if_neg (by rw [decide_eq_false q]; exact Bool.false_ne_true)] at e
      obtain ⟨w, e1, e2⟩ := lkK_rel h2 e
      refine ⟨w, ?_, e2⟩
      unfold valV at e1 ⊢
      rw [List.find?_cons, show decide (((g, v) : Key × V).1 = k) = false from decide_eq_false q]
      exact e1
theorem keyD_is {H : Hp} {p : Pl} {v : V} {d : Dat} {k : Key} (h : IsD Z H p v d) (e : keyD d = some k) : v = kV k := by
  cases d with
  | int i => cases e; exact isD_int.mp h
  | str x => cases e; exact isD_str.mp h
  | _ => cases e
def dDGet (d e : Dat) : M Dat := match d with
  | .dic ks ds => M.opt (keyD e) >>= fun k => M.opt (lkK k ks ds)
  | _ => M.no
def xDGet (a b : Env → M Dat) (ρ : Env) : M Dat := a ρ >>= fun x => b ρ >>= fun y => dDGet x y
theorem j_dget (ha : JW Z Er O ta m1) (hb : JD Z Er O tb m2) : JD Z Er O (tDGet ta tb) (xDGet m1 m2) := fun σ H p ρ S Q hE hS q =>
  ha σ H p ρ S _ hE hS ((q.bnd xE).mono fun d S1 H1 p1 e1 s1 q1 v hv => hb σ H1 p1 ρ S1 _ (hE.ext e1 hS) s1 ((q1.bnd xE).mono fun e S2 H2 p2 e2 s2 q2 w hw => by
    cases d with
    | dic ks ds =>
      obtain ⟨k, ek, q2⟩ := Post.opt q2
      obtain ⟨x, ex, kk⟩ := opt_pure xE q2 s2
      obtain ⟨a, vs, rfl, h1, hl, h2⟩ := upW.up e2 s1 hv
      obtain ⟨u, g1, g2⟩ := lkK_rel h2 ex
      exact ⟨a, u, rfl, .inl ⟨_, k, .inl h1.1, keyD_is hw ek, g1.symm⟩, kk u g2⟩
    | _ => exact (bad_no (S := S2) q2).elim))
/-- zip(a, b): two lists, two tuples -/
def zipD (xs ys : List Dat) : List Dat := (xs.zip ys).map fun q => .tup [q.1, q.2]
theorem zip_len {xs ys : List Dat} : (zipD xs ys).length = min xs.length ys.length := by unfold zipD; rw [List.length_map, List.length_zip]
theorem zip_at {xs ys : List Dat} {i : Nat} (h1 : i < xs.length) (h2 : i < ys.length) : (zipD xs ys)[i]? = some (.tup [xs[i], ys[i]]) := by
  unfold zipD
  rw [List.getElem?_map, List.getElem?_zip_eq_some (z := (xs[i], ys[i])) |>.mpr ⟨List.getElem?_eq_getElem h1, List.getElem?_eq_getElem h2⟩]
  rfl
/-- a dict display -/
def xPairs : List ((Env → M Dat) × (Env → M Dat)) → Env → M (List (Dat × Dat))
  | [], _ => pure []
  | (a, b) :: r, ρ => a ρ >>= fun x => b ρ >>= fun y => xPairs r ρ >>= fun l => pure ((x, y) :: l)
def keysD : List (Dat × Dat) → Option (List Key)
  | [] => some []
  | (a, _) :: r => (keyD a).bind fun k => (keysD r).map (k :: ·)
def noDup : List Key → Bool
  | [] => true
  | k :: r => !r.any (fun g => decide (g = k)) && noDup r
def xDisp (l : List ((Env → M Dat) × (Env → M Dat))) (ρ : Env) : M Dat := xPairs l ρ >>= fun ps => M.opt (keysD ps) >>= fun ks => M.need (noDup ks && decide (ks.length ≤ 15)) >>= fun _ => pure (.dic ks (ps.map (·.2)))
end
end Zd
namespace Zd
open PySem PySem.Spec PyProof.Rows L2
inductive Src where
  | li (a : Addr) | tu (a : Addr) | tx (x : Str)
def Src.v : Src → V
  | .li a => .ref a
  | .tu a => .ref a
  | .tx x => .str x
def Src.has (K : PySem.W.Frag) (H : Hp) (i : Nat) (v : V) : Src → Prop
  | .li a => ∃ xs, SqL K H a xs ∧ xs[i]? = some v
  | .tu a => ∃ xs, SqT K H a xs ∧ xs[i]? = some v
  | .tx x => ∃ c, x.cps[i]? = some c ∧ v = .str ⟨#[c]⟩
def Src.len (K : PySem.W.Frag) (H : Hp) (n : Nat) : Src → Prop
  | .li a => ∃ xs, SqL K H a xs ∧ xs.length = n
  | .tu a => ∃ xs, SqT K H a xs ∧ xs.length = n
  | .tx x => x.cps.size = n
def Src.fp (it : Addr) : Src → List Addr
  | .li a => [it, a]
  | .tu a => [it, a]
  | .tx _ => [it]
def Src.off (c : Addr) : Src → Prop
  | .li a => a ≠ c
  | .tu a => a ≠ c
  | .tx _ => True
/-- its iterator at the place i -/
def Src.itr (it : Addr) (i : Nat) (h : Heap) : Src → Prop
  | .li a => h.IsListIter it a i
  | .tu a => h.IsTupleIter it a i
  | .tx x => ∃ t, h.IsStrIter it (strIterType x) x t i
theorem Src.itr_keep {it : Addr} {i : Nat} {h h' : Heap} : ∀ {s : Src}, s.itr it i h → (∀ o, h.get? it = some o → h'.get? it = some o) → s.itr it i h'
  | .li a, q, k => Heap.IsListIter.at q k
  | .tu a, q, k => Heap.IsTupleIter.at q k
  | .tx x, ⟨t, o, e, c, d⟩, k => ⟨t, o, k o e, c, d⟩
theorem Src.itr_obj {it : Addr} {i : Nat} {h : Heap} : ∀ {s : Src}, s.itr it i h → ∃ o, h.get? it = some o ∧ ∀ v, o.data ≠ .cell v
  | .li a, ⟨o, e, c, d⟩ => ⟨o, e, fun v q => by rw [d] at q; cases q⟩
  | .tu a, ⟨o, e, c, d⟩ => ⟨o, e, fun v q => by rw [d] at q; cases q⟩
  | .tx x, ⟨t, o, e, c, d⟩ => ⟨o, e, fun v q => by rw [d] at q; cases q⟩
theorem Src.mem {it : Addr} : ∀ {s : Src}, it ∈ s.fp it
  | .li a => List.mem_cons_self
  | .tu a => List.mem_cons_self
  | .tx x => List.mem_cons_self
theorem Src.nofp {it c : Addr} : ∀ {s : Src}, c ≠ it → s.off c → c ∉ s.fp it
  | .li a, h, k, m => by
    rcases List.mem_cons.mp m with e | e
    · exact h e
    · exact k (List.mem_singleton.mp e).symm
  | .tu a, h, k, m => by
    rcases List.mem_cons.mp m with e | e
    · exact h e
    · exact k (List.mem_singleton.mp e).symm
  | .tx x, h, k, m => h (List.mem_singleton.mp m)
/-- what it draws, as things stand -/
structure Src.Dr (P : Program) (w : World) (A : Around) (K : PySem.W.Frag) (H : Hp) (s : Src) (it : Addr) (i : Nat) (h : Heap) (n : Nat) : Prop where
  dr : ∃ (Pv : Nat → Value → Prop) (St : Nat → Heap → Prop), Draws P w A it (s.fp it) n Pv St ∧ St i h ∧ (∀ u, Pv i u → ∃ x, RelV x u ∧ s.has K H i x) ∧ ∀ j h', St j h' → s.itr it j h'
theorem Src.dr {X : Cx} {pins : List (Addr × Obj)} {σ : L2.St} {H : Hp} {sh : Shared} (I : Inv X pins σ H sh) (hc : X.calm = true) {it : Addr} {i n : Nat} : ∀ {s : Src}, s.len X.K H n → s.itr it i sh.heap → s.off it → Src.Dr X.prog X.w X.A.in1 X.K H s it i sh.heap n
  | .li a, ⟨xs, hq, hl⟩, st, ho => by
    obtain ⟨its, rv, p, hz⟩ := I.list hq
    have e : its.toArray.size = n := by rw [List.size_toArray, ← rv.length, hl]
    subst e
    refine ⟨_, _, Draws.list (A := X.A.in1) (I.ok.hd hc) it a ho its.toArray, ⟨st, p.isList⟩, fun u hu => ?_, fun j h' st' => st'.1⟩
    have hu : its[i]? = some u := by simpa using hu
    have lt : i < xs.length := by rw [rv.length]; exact (List.getElem?_eq_some_iff.mp hu).1
    obtain ⟨u', h1, h2⟩ := rv.get (List.getElem?_eq_getElem lt)
    rw [hu] at h1
    cases h1
    exact ⟨_, h2, xs, hq, List.getElem?_eq_getElem lt⟩
  | .tu a, ⟨xs, hq, hl⟩, st, ho => by
    obtain ⟨its, rv, p, hz⟩ := I.tuple hq
    have e : its.toArray.size = n := by rw [List.size_toArray, ← rv.length, hl]
    subst e
    refine ⟨_, _, Draws.tuple (A := X.A.in1) (I.ok.hd hc) it a ho its.toArray, ⟨st, p⟩, fun u hu => ?_, fun j h' st' => st'.1⟩
    have hu : its[i]? = some u := by simpa using hu
    have lt : i < xs.length := by rw [rv.length]; exact (List.getElem?_eq_some_iff.mp hu).1
    obtain ⟨u', h1, h2⟩ := rv.get (List.getElem?_eq_getElem lt)
    rw [hu] at h1
    cases h1
    exact ⟨_, h2, xs, hq, List.getElem?_eq_getElem lt⟩
  | .tx x, hl, ⟨t, st⟩, ho => by
    have e : x.cps.size = n := hl
    subst e
    refine ⟨_, _, Draws.text (A := X.A.in1) (I.ok.hd hc) it x t, st, fun u hu => ?_, fun j h' st' => ⟨t, st'⟩⟩
    obtain ⟨c, v, h1, h2⟩ := hu
    exact ⟨.str ⟨#[c]⟩, ⟨v, h2⟩, c, h1, rfl⟩
theorem Src.inj {X : Cx} {pins : List (Addr × Obj)} {σ : L2.St} {H : Hp} {sh : Shared} (I : Inv X pins σ H sh) {i : Nat} {x y : V} : ∀ {s : Src}, s.has X.K H i x → s.has X.K H i y → x = y
  | .li a, ⟨xs, h1, h2⟩, ⟨ys, k1, k2⟩ => by
    rw [I.list_inj h1 k1, k2] at h2
    exact (Option.some.inj h2).symm
  | .tu a, ⟨xs, h1, h2⟩, ⟨ys, k1, k2⟩ => by
    rw [I.tuple_inj h1 k1, k2] at h2
    exact (Option.some.inj h2).symm
  | .tx x, ⟨c, h1, h2⟩, ⟨d, k1, k2⟩ => by
    rw [h1] at k1
    cases k1
    rw [h2, k2]
def ItzG (K : PySem.W.Frag) (s1 s2 : Src) : It :=
  ⟨fun i H => ∃ n1 n2, s1.len K H n1 ∧ s2.len K H n2 ∧ i < n1 ∧ i < n2,
    fun i H v H' => ∃ T o x y, v = .ref T ∧ H T = none ∧ o.dict = none ∧ H' = upd H T (.frz o (.tup [x, y])) ∧ (∀ z, s1.has K H i z → x = z) ∧ ∀ z, s2.has K H i z → y = z,
    fun i H => ∃ n1 n2, s1.len K H n1 ∧ s2.len K H n2 ∧ i ≤ n1 ∧ i ≤ n2 ∧ (i = n1 ∨ i = n2)⟩
structure SepG (s1 s2 : Src) (z TI TO i1 i2 : Addr) : Prop where
  TIz : TI ≠ z
  TOz : TO ≠ z
  i1z : i1 ≠ z
  i2z : i2 ≠ z
  TITO : TI ≠ TO
  TIi1 : TI ≠ i1
  TIi2 : TI ≠ i2
  TOi1 : TO ≠ i1
  TOi2 : TO ≠ i2
  i12 : i1 ≠ i2
  a1 : ∀ c, c = z ∨ c = TO ∨ c = i1 ∨ c = i2 → s1.off c
  a2 : ∀ c, c = z ∨ c = TO ∨ c = i1 ∨ c = i2 → s2.off c
theorem SepG.sep {s1 s2 : Src} {z TI TO i1 i2 : Addr} (D : SepG s1 s2 z TI TO i1 i2) : ZipSep2 z TI TO i1 i2 (s1.fp i1) (s2.fp i2) :=
  { TIz := D.TIz, TOz := D.TOz, TITO := D.TITO, TIi1 := D.TIi1, mem1 := Src.mem, zf1 := Src.nofp (Ne.symm D.i1z) (D.a1 _ (.inl rfl)), Tf1 := Src.nofp D.TOi1 (D.a1 _ (.inr (.inl rfl))),
    TIi2 := D.TIi2, mem2 := Src.mem, zf2 := Src.nofp (Ne.symm D.i2z) (D.a2 _ (.inl rfl)), Tf2 := Src.nofp D.TOi2 (D.a2 _ (.inr (.inl rfl))),
    sep1_2 := Src.nofp D.i12 (D.a2 _ (.inr (.inr (.inl rfl)))), sep2_1 := Src.nofp (Ne.symm D.i12) (D.a1 _ (.inr (.inr (.inr rfl)))) }
theorem turn_zipG {P : Program} {w : World} {K : PySem.W.Frag} {elts : List Expr} {kk : Nat} {tpos : Pos} {s1 s2 : Src} {z TI TO i1 i2 : Addr} (D : SepG s1 s2 z TI TO i1 i2) :
    Turn P w K (.Tuple elts kk tpos) (ItzG K s1 s2) [z, TI, TO, i1, i2] z (fun i h => IsZip h z TI TO .none ∧ IsTupOf2 h TI (.ref i1) (.ref i2) ∧ (∃ x y, IsTupOf2 h TO x y) ∧ s1.itr i1 i h ∧ s2.itr i2 i h) where
  mem := by simp
  obj := fun i h ⟨hz, hTI, ⟨x, y, hTO⟩, h1, h2⟩ c hc => by
    have five : c = z ∨ c = TI ∨ c = TO ∨ c = i1 ∨ c = i2 := by simpa using hc
    rcases five with rfl | rfl | rfl | rfl | rfl
    · exact ⟨_, hz, nofun⟩
    · exact ⟨_, hTI, nofun⟩
    · exact ⟨_, hTO, nofun⟩
    · exact Src.itr_obj h1
    · exact Src.itr_obj h2
  keep := fun i h h' ⟨hz, hTI, ⟨x, y, hTO⟩, h1, h2⟩ k => ⟨k z (by simp) _ hz, k TI (by simp) _ hTI, ⟨x, y, k TO (by simp) _ hTO⟩, Src.itr_keep h1 fun o q => k i1 (by simp) o q, Src.itr_keep h2 fun o q => k i2 (by simp) o q⟩
  item := by
    rintro X rfl rfl rfl hc i pins s σ H E I hf ⟨hz, hTI, ⟨a1, a2, hTO⟩, h1, h2⟩ ⟨n1, n2, l1, l2, lt1, lt2⟩
    obtain ⟨P1, St1, D1, t1, g1, f1⟩ := (Src.dr I hc l1 h1 (D.a1 _ (.inr (.inr (.inl rfl))))).dr
    obtain ⟨P2, St2, D2, t2, g2, f2⟩ := (Src.dr I hc l2 h2 (D.a2 _ (.inr (.inr (.inr rfl))))).dr
    refine wpAny_pyNext_zipD2_item D.sep D1 D2 hz hTI hTO t1 t2 lt1 lt2 fun u1 u2 h' tk p1 p2 z' TO' q1 q2 hT hsz hk => ⟨_, rfl, wpAny_letOwnedTupleGo_zip (s := { s with heap := h', toks := tk }) z' fun h'' z'' sb => ?_⟩
    obtain ⟨x, rx, hx⟩ := g1 u1 p1
    obtain ⟨y, ry, hy⟩ := g2 u2 p2
    have ne : ∀ {c o}, s.heap.get? c = some o → s.heap.objs.size ≠ c := fun e => Nat.ne_of_gt (Heap.lt_size e)
    have sb' : ∀ c, c ≠ z → h''.get? c = h'.get? c := fun c n => sb.2 c n
    have hT2 : h''.get? s.heap.objs.size = some { cls := .type "tuple", data := .seq #[u1, u2] } := (sb' _ (ne hz)).trans hT
    have new : ObjOk X.prog X.w (upd H s.heap.objs.size (.frz { cls := .type "tuple", data := .seq #[u1, u2] } (.tup [x, y]))) h'' s.heap.objs.size (.frz { cls := .type "tuple", data := .seq #[u1, u2] } (.tup [x, y])) := ⟨hT2, show 2 ≤ sizeLine by decide, [u1, u2], .cons rx (.cons ry .nil), ⟨_, hT2, rfl, _, rfl⟩⟩
    have lt : ∀ c ∈ [z, TI, TO, i1, i2], c ≠ s.heap.objs.size := fun c hc' => by
      have five : c = z ∨ c = TI ∨ c = TO ∨ c = i1 ∨ c = i2 := by simpa using hc'
      rcases five with rfl | rfl | rfl | rfl | rfl
      · exact (ne hz).symm
      · exact (ne hTI).symm
      · exact (ne hTO).symm
      · obtain ⟨o, e, _⟩ := Src.itr_obj h1; exact (ne e).symm
      · obtain ⟨o, e, _⟩ := Src.itr_obj h2; exact (ne e).symm
    refine ⟨.ref s.heap.objs.size, _, I.turnedNew (t' := tk) (ch := [z, TI, TO, i1, i2]) (fun c o hb q => (sb' c fun e => hb (by simp [e])).trans (hk c o (fun e => hb (by simp [e])) (fun e => hb (by simp [e])) (fun e => hb (by simp [e])) (fun e => hb (by simp [e])) q)) hf (Nat.le_refl _) new, rfl,
      ⟨_, _, x, y, rfl, I.hok.fresh (Nat.le_refl _), rfl, rfl, fun _ q => Src.inj I hx q, fun _ q => Src.inj I hy q⟩, ⟨z'', (sb' _ D.TIz).trans (hk _ _ D.TIz D.TITO D.TIi1 D.TIi2 hTI), ⟨u1, u2, (sb' _ D.TOz).trans TO'⟩, Src.itr_keep (f1 _ _ q1) fun o q => (sb' _ D.i1z).trans q, Src.itr_keep (f2 _ _ q2) fun o q => (sb' _ D.i2z).trans q⟩, fun c hc' => ?_⟩
    rw [upd_ne (lt c hc')]
    exact (hf c hc').1
  done := by
    rintro X rfl rfl rfl hc i pins s σ H E I hf ⟨hz, hTI, ⟨a1, a2, hTO⟩, h1, h2⟩ ⟨n1, n2, l1, l2, lt1, lt2, en⟩
    obtain ⟨P1, St1, D1, t1, g1, f1⟩ := (Src.dr I hc l1 h1 (D.a1 _ (.inr (.inr (.inl rfl))))).dr
    obtain ⟨P2, St2, D2, t2, g2, f2⟩ := (Src.dr I hc l2 h2 (D.a2 _ (.inr (.inr (.inr rfl))))).dr
    exact wpAny_pyNext_zipD2_end D.sep D1 D2 hz hTI hTO t1 t2 lt1 lt2 en fun h' tk hk => ⟨rfl, I.turnedL (t' := tk) (ch := [z, TI, TO, i1, i2]) (fun c o hb q =>
      hk c o (fun e => hb (by simp [e])) (fun e => hb (by simp [e])) (fun e => hb (by simp [e])) (fun e => hb (by simp [e])) q) hf⟩
  self := fun A i s Q E st h => wpAny_pyIter_zip st.1 h
/-- it begins -/
theorem Src.begins {X : Cx} {pins : List (Addr × Obj)} {σ : L2.St} {H : Hp} {sh : Shared} (I : Inv X pins σ H sh) {u : Value} {n : Nat} : ∀ {s : Src}, s.len X.K H n → RelV s.v u →
    ∃ (o : Obj) (Hb : Heap → Prop), Begins u o Hb ∧ Hb sh.heap ∧ (∀ h' it, h'.get? it = some o → s.itr it 0 h') ∧ ∀ c, sh.heap.objs.size ≤ c → s.off c
  | .li a, ⟨xs, hq, _⟩, r => by
    obtain ⟨its, rv, p, hz⟩ := I.list hq
    cases (show u = Value.ref a from r)
    refine ⟨_, _, begins_list a its.toArray, p.isList, fun h' it e => ⟨_, e, rfl, rfl⟩, fun c le e => ?_⟩
    obtain ⟨o, h1, _⟩ := p.isList
    rw [← e] at le
    exact absurd (Heap.lt_size h1) (Nat.not_lt.mpr le)
  | .tu a, ⟨xs, hq, _⟩, r => by
    obtain ⟨its, rv, p, hz⟩ := I.tuple hq
    cases (show u = Value.ref a from r)
    refine ⟨_, _, begins_tuple a its.toArray, p, fun h' it e => ⟨_, e, rfl, rfl⟩, fun c le e => ?_⟩
    obtain ⟨o, h1, _⟩ := id p
    rw [← e] at le
    exact absurd (Heap.lt_size h1) (Nat.not_lt.mpr le)
  | .tx x, _, r => by
    obtain ⟨t, rfl⟩ := (show ∃ t, u = Value.str x t from r)
    exact ⟨_, _, begins_text x t, trivial, fun h' it e => ⟨t, _, e, rfl, rfl⟩, fun _ _ => trivial⟩
def iZipG (K : PySem.W.Frag) (ta : TA) : TI := fun σ H R => ta σ H fun vs H1 => ∃ (s1 s2 : Src) (n1 n2 : Nat), vs = [s1.v, s2.v] ∧ s1.len K H1 n1 ∧ s2.len K H1 n2 ∧ R (ItzG K s1 s2) H1
theorem pi_zipG {X : Cx} {e e2 : Expr} {ta : TA} {p pos tpos : Pos} {elts : List Expr} {kk : Nat} (hg : Gl X "zip") (hm : X.mg "zip" = none) (ha : PA X [e, e2] ta)
    (hs : starEach [e, e2] X.env = (false, eval e X.env) :: starEach [e2] X.env := by rfl) (hpl : (backTo pos (starEach [e2] X.env)).any (·.1) = false := by rfl) :
    PI X (.Tuple elts kk tpos) (.Call (.Name "zip" p) [e, e2] [] pos) (iZipG X.K ta) := by
  refine ⟨fun pins s σ H R I h => Call_ (ld_blt I hg hm PyProof.Rows.boot_zip (PyProof.Rows.callWith_type1 (thn (ha.run pos pins s σ H _ I h) fun us s1 ⟨vs, H1, I1, r1, s1', s2', n1, n2, ex, l1, l2, q⟩ => ?_) hs hpl))⟩
  subst ex
  cases r1 with
  | cons ra rr =>
    cases rr with
    | cons rb rr =>
      cases rr
      obtain ⟨o1, Hb1, B1, hb1, f1, g1⟩ := Src.begins I1 l1 ra
      obtain ⟨o2, Hb2, B2, hb2, f2, g2⟩ := Src.begins I1 l2 rb
      have le : ∀ k, s1.heap.objs.size ≤ s1.heap.objs.size + k := fun k => Nat.le_add_right _ k
      refine zip_begins2 B1 B2 hb1 hb2 fun h' hz hTI hTO h1 h2 hsz hk => wpAny_pyIter_zip hz ?_
      have D : SepG s1' s2' (s1.heap.objs.size + 4) (s1.heap.objs.size + 2) (s1.heap.objs.size + 3) s1.heap.objs.size (s1.heap.objs.size + 1) :=
        ⟨show (s1.heap.objs.size + 2 : Nat) ≠ s1.heap.objs.size + 4 by omega, show (s1.heap.objs.size + 3 : Nat) ≠ s1.heap.objs.size + 4 by omega, show (s1.heap.objs.size : Nat) ≠ s1.heap.objs.size + 4 by omega, show (s1.heap.objs.size + 1 : Nat) ≠ s1.heap.objs.size + 4 by omega,
          show (s1.heap.objs.size + 2 : Nat) ≠ s1.heap.objs.size + 3 by omega, show (s1.heap.objs.size + 2 : Nat) ≠ s1.heap.objs.size by omega, show (s1.heap.objs.size + 2 : Nat) ≠ s1.heap.objs.size + 1 by omega, show (s1.heap.objs.size + 3 : Nat) ≠ s1.heap.objs.size by omega, show (s1.heap.objs.size + 3 : Nat) ≠ s1.heap.objs.size + 1 by omega, show (s1.heap.objs.size : Nat) ≠ s1.heap.objs.size + 1 by omega,
          fun c hc => g1 c (by rcases hc with rfl | rfl | rfl | rfl <;> first | exact le _ | exact Nat.le_refl _), fun c hc => g2 c (by rcases hc with rfl | rfl | rfl | rfl <;> first | exact le _ | exact Nat.le_refl _)⟩
      refine ⟨_, [s1.heap.objs.size + 4, s1.heap.objs.size + 2, s1.heap.objs.size + 3, s1.heap.objs.size, s1.heap.objs.size + 1], _, _, H1, rfl, I1.kept (t' := s1.toks) hk, turn_zipG D, ⟨hz, hTI, ⟨_, _, hTO⟩, f1 _ _ h1, f2 _ _ h2⟩, fun c hc => ?_, q⟩
      have lec : s1.heap.objs.size ≤ c := by
        have five : c = s1.heap.objs.size + 4 ∨ c = s1.heap.objs.size + 2 ∨ c = s1.heap.objs.size + 3 ∨ c = s1.heap.objs.size ∨ c = s1.heap.objs.size + 1 := by simpa using hc
        rcases five with rfl | rfl | rfl | rfl | rfl <;> first | exact le _ | exact Nat.le_refl _
      exact I1.fpOk lec (I1.hok.fresh lec)
end Zd
namespace Zd
open PySem PySem.Spec PyProof.Rows L2
/-- enumerate(v) -/
theorem meets_enum1 {v : Value} {o : Obj} {H : Heap → Prop} (B : Begins v o H) :
    Meets (Builtin.«enumerate.__new__» ⟨[.type "enumerate", v], []⟩) (fun _ R s => H s.heap ∧
      R (.ok (.ret (.ref (s.heap.objs.size + 1)))) { s with heap := (s.heap.push o).push { cls := .type "enumerate", data := .fields #[.none, .bool false, .ref s.heap.objs.size, rawInt 0, .none, .none] } }) :=
  .of_wp fun prog w A R s ⟨h1, h⟩ => by
    obtain ⟨hp, g, d, tk, os⟩ := s
    change R (.ok (.ret (.ref (hp.objs.size + 1)))) _ at h
    have hsub := sub_enumerate
    have hz : (hp.push o).objs.size = hp.objs.size + 1 := Heap.size_push ..
    rw [← hz] at h
    have begin_ : ∀ {A' : Around} {E : Value → Shared → Prop} {Q : Value → Shared → Prop}, Q (.ref hp.objs.size) ⟨hp.push o, g, d, tk, os⟩ → wpAny (model prog w) A' (pyIter v) Q E ⟨hp, g, d, tk, os⟩ :=
      fun q => B.iter prog w _ _ ⟨hp, g, d, tk, os⟩ _ h1 q
    wp_walk using begin_
    refine wpAny_stack_any fun st => wpAny_pure ?_
    split
    · rename_i c _ _ _ _ _
      cases (c == Value.type "enumerate") <;> (wp_walk using begin_) <;> exact ⟨_, rfl, h⟩
    · wp_walk using begin_
      exact ⟨_, rfl, h⟩
def IteG (K : PySem.W.Frag) (s1 : Src) : It :=
  ⟨fun i H => ∃ n, s1.len K H n ∧ i < n, fun i H v H' => ∃ T o x, v = .ref T ∧ H T = none ∧ o.dict = none ∧ H' = upd H T (.frz o (.tup [.int (i : Nat), x])) ∧ ∀ z, s1.has K H i z → x = z, fun i H => s1.len K H i⟩
theorem turn_enumG {P : Program} {w : World} {K : PySem.W.Frag} {elts : List Expr} {kk : Nat} {tpos : Pos} {s1 : Src} {e it : Addr} (ne : e ≠ it) (o1 : s1.off e) (o2 : s1.off it) :
    Turn P w K (.Tuple elts kk tpos) (IteG K s1) [e, it] e (fun i h => (∃ old, IsEnum h e it ((i : Nat) : Int) old) ∧ s1.itr it i h) where
  mem := by simp
  obj := fun i h ⟨⟨old, he⟩, h1⟩ c hc => by
    have two : c = e ∨ c = it := by simpa using hc
    rcases two with rfl | rfl
    · exact ⟨_, he, nofun⟩
    · exact Src.itr_obj h1
  keep := fun i h h' ⟨⟨old, he⟩, h1⟩ k => ⟨⟨old, k e (by simp) _ he⟩, Src.itr_keep h1 fun o q => k it (by simp) o q⟩
  item := by
    rintro X rfl rfl rfl hc i pins s σ H E I hf ⟨⟨old, he⟩, h1⟩ ⟨n, l1, lt1⟩
    obtain ⟨P1, St1, D1, t1, g1, f1⟩ := (Src.dr I hc l1 h1 o2).dr
    refine wpAny_pyNext_enum_itemD D1 he t1 lt1 ne (Src.nofp ne o1) fun u h' tk p1 eo q1 hT hsz hk => ⟨_, rfl, wpAny_letOwnedTupleGo_enum (s := { s with heap := h', toks := tk + 1 }) eo fun h'' e'' sb => ?_⟩
    obtain ⟨x, rx, hx⟩ := g1 u p1
    have nel : s.heap.objs.size ≠ e := Nat.ne_of_gt (Heap.lt_size he)
    have nit : s.heap.objs.size ≠ it := by obtain ⟨o, q, _⟩ := Src.itr_obj h1; exact Nat.ne_of_gt (Heap.lt_size q)
    have hT2 : h''.get? s.heap.objs.size = some { cls := .type "tuple", data := .seq #[.int i tk, u] } := (sb.2 _ nel).trans hT
    have new : ObjOk X.prog X.w (upd H s.heap.objs.size (.frz { cls := .type "tuple", data := .seq #[.int i tk, u] } (.tup [.int (i : Nat), x]))) h'' s.heap.objs.size (.frz { cls := .type "tuple", data := .seq #[.int i tk, u] } (.tup [.int (i : Nat), x])) := ⟨hT2, show 2 ≤ sizeLine by decide, [.int i tk, u], .cons ⟨_, rfl⟩ (.cons rx .nil), ⟨_, hT2, rfl, _, rfl⟩⟩
    have k2 : ∀ b o, b ∉ [e, it] → s.heap.get? b = some o → h''.get? b = some o := fun b o hb q => (sb.2 b fun z => hb (by simp [z])).trans (hk b o (fun z => hb (by simp [z])) (fun z => hb (by simp [z])) q)
    refine ⟨.ref s.heap.objs.size, _, I.turnedNew (t' := tk + 1) (ch := [e, it]) k2 hf (Nat.le_refl _) new, rfl, ⟨_, _, x, rfl, I.hok.fresh (Nat.le_refl _), rfl, rfl, fun _ q => Src.inj I hx q⟩, ⟨⟨u, ?_⟩, Src.itr_keep (f1 _ _ q1) fun o q => (sb.2 it (Ne.symm ne)).trans q⟩, fun c hc' => ?_⟩
    · have cast : ((i + 1 : Nat) : Int) = (i : Int) + 1 := by omega
      rw [cast]
      exact e''
    · have two : c = e ∨ c = it := by simpa using hc'
      have nc : c ≠ s.heap.objs.size := by
        rcases two with rfl | rfl
        · exact nel.symm
        · exact nit.symm
      rw [upd_ne nc]
      exact (hf c hc').1
  done := by
    rintro X rfl rfl rfl hc i pins s σ H E I hf ⟨⟨old, he⟩, h1⟩ l1
    obtain ⟨P1, St1, D1, t1, g1, f1⟩ := (Src.dr I hc l1 h1 o2).dr
    obtain ⟨f0, f1', f2, f3, f4, f5⟩ := hf it (by simp)
    exact wpAny_pyNext_enum_endD D1 he t1 fun h' eb => ⟨rfl, I.turned (t' := s.toks) (fun b o hb q => eb b o hb q) f0 f1' f3 f4 f5⟩
  self := fun A i s Q E st h => let ⟨⟨_, he⟩, _⟩ := st; wpAny_pyIter_enum he h
def iEnumG (K : PySem.W.Frag) (ta : TA) : TI := fun σ H R => ta σ H fun vs H1 => ∃ (s1 : Src) (n : Nat), vs = [s1.v] ∧ s1.len K H1 n ∧ R (IteG K s1) H1
theorem pi_enumG {X : Cx} {e : Expr} {ta : TA} {p pos tpos : Pos} {elts : List Expr} {kk : Nat} (hg : Gl X "enumerate") (hm : X.mg "enumerate" = none) (ha : PA X [e] ta) (hs : starEach [e] X.env = [(false, eval e X.env)] := by rfl) :
    PI X (.Tuple elts kk tpos) (.Call (.Name "enumerate" p) [e] [] pos) (iEnumG X.K ta) := by
  refine ⟨fun pins s σ H R I h => Call_ (ld_blt I hg hm boot_enumerate (PyProof.Rows.callWith_type1 (thn (ha.run pos pins s σ H _ I h) fun us s1 ⟨vs, H1, I1, r1, s1', n, ex, l1, q⟩ => ?_) hs rfl))⟩
  subst ex
  cases r1 with
  | cons ra rr =>
    cases rr
    obtain ⟨o1, Hb1, B1, hb1, f1, g1⟩ := Src.begins I1 l1 ra
    refine callType_new F.called_enumerate (by decide) (F.typeCall_enumerate_1 _) (F.newCall_enumerate_1 _) (fun obj => F.args_object_init_2 obj _) F.entry_enumerate_new (meets_enum1 B1) ⟨hb1, ?_⟩
    have hz : (s1.heap.push o1).objs.size = s1.heap.objs.size + 1 := Heap.size_push ..
    have he : IsEnum ((s1.heap.push o1).push { cls := .type "enumerate", data := .fields #[.none, .bool false, .ref s1.heap.objs.size, rawInt 0, .none, .none] }) (s1.heap.objs.size + 1) s1.heap.objs.size 0 .none := by
      have g := Heap.get?_push_size (s1.heap.push o1) (o := { cls := .type "enumerate", data := .fields #[.none, .bool false, .ref s1.heap.objs.size, rawInt 0, .none, .none] }) rfl
      rw [hz] at g
      exact g
    have k2 : ∀ b o, s1.heap.get? b = some o → ((s1.heap.push o1).push { cls := .type "enumerate", data := .fields #[.none, .bool false, .ref s1.heap.objs.size, rawInt 0, .none, .none] }).get? b = some o := fun b o x => Heap.get?_push_of_some _ (Heap.get?_push_of_some _ x)
    refine ⟨⟨_, he, rfl⟩, wpAny_pyIter_enum he ⟨s1.heap.objs.size + 1, [s1.heap.objs.size + 1, s1.heap.objs.size], _, _, H1, rfl, I1.kept (t' := s1.toks) k2, turn_enumG (Nat.succ_ne_self _) (g1 _ (Nat.le_succ _)) (g1 _ (Nat.le_refl _)), ⟨⟨.none, he⟩, f1 _ _ (Heap.get?_push_of_some _ (Heap.get?_push_size _ B1.free))⟩, fun b hb => ?_, q⟩⟩
    have le : s1.heap.objs.size ≤ b := by
      have two : b = s1.heap.objs.size + 1 ∨ b = s1.heap.objs.size := by simpa using hb
      rcases two with rfl | rfl
      · exact Nat.le_succ _
      · exact Nat.le_refl _
    exact I1.fpOk le (I1.hok.fresh le)
end Zd
namespace Zd
open PySem PySem.Spec PyProof.Rows L2
section
variable {Z : Cz} {Er : ErW} {O : List Nat} {vs : Option (List Nat)} {te ta tb tc : TE} {tt tu : TT} {m m1 m2 m3 : Env → M Dat} {mb mc : Env → M Bool} {tl : TA} {ml : Env → M (List Dat)}
def signs (x : Str) : List Dat := x.cps.toList.map fun c => .str ⟨#[c]⟩
def itemsG : Dat → Option (List Dat)
  | .lst ds => some ds
  | .tup ds => some ds
  | .str x => some (signs x)
  | _ => none
def Src.Of (Z : Cz) (H : Hp) (p : Pl) (s : Src) (ds : List Dat) : Prop := s.len Z.K H ds.length ∧ ∀ i d, ds[i]? = some d → ∃ x, s.has Z.K H i x ∧ IsD Z H p x d
theorem src_of {H : Hp} {p : Pl} {v : V} {d : Dat} {ds : List Dat} (h : IsD Z H p v d) (e : itemsG d = some ds) : ∃ s : Src, v = s.v ∧ ∀ H' p', Ext H p H' p' → s.Of Z H' p' ds := by
  cases d with
  | lst xs =>
    cases e
    obtain ⟨a, us, rfl, h1, h2⟩ := isD_lst.mp h
    refine ⟨.li a, rfl, fun H' p' ex => ⟨⟨us, (h1.ext ex).sq, h2.len⟩, fun i d hi => ?_⟩⟩
    obtain ⟨x, g1, g2⟩ := (h2.ext ex).get hi
    exact ⟨x, ⟨us, (h1.ext ex).sq, g1⟩, g2⟩
  | tup xs =>
    cases e
    obtain ⟨a, us, rfl, h1, h2⟩ := isD_tup.mp h
    refine ⟨.tu a, rfl, fun H' p' ex => ⟨⟨us, (h1.ext ex).sq, h2.len⟩, fun i d hi => ?_⟩⟩
    obtain ⟨x, g1, g2⟩ := (h2.ext ex).get hi
    exact ⟨x, ⟨us, (h1.ext ex).sq, g1⟩, g2⟩
  | str x =>
    cases e
    refine ⟨.tx x, isD_str.mp h, fun H' p' ex => ⟨by show x.cps.size = (signs x).length; unfold signs; rw [List.length_map, Array.length_toList], fun i d hi => ?_⟩⟩
    unfold signs at hi
    rw [List.getElem?_map, Array.getElem?_toList] at hi
    cases q : x.cps[i]? with
    | none => rw [q] at hi; cases hi
    | some c => rw [q] at hi; cases hi; exact ⟨_, ⟨c, q, rfl⟩, isD_str.mpr rfl⟩
  | _ => cases e
theorem walks_zipG {X : XR} (x : XOk X) {H : Hp} {p : Pl} {s1 s2 : Src} {xs ys : List Dat} (h1 : ∀ H' p', Ext H p H' p' → s1.Of Z H' p' xs) (h2 : ∀ H' p', Ext H p H' p' → s2.Of Z H' p' ys) : Walks Z X (ItzG Z.K s1 s2) (zipD xs ys) H p := fun H1 p1 S1 i e s => by
  obtain ⟨l1, g1⟩ := h1 H1 p1 (x.s e)
  obtain ⟨l2, g2⟩ := h2 H1 p1 (x.s e)
  rw [zip_len]
  refine ⟨fun lt => ?_, fun le => ⟨_, _, l1, l2, by omega, by omega, by omega⟩⟩
  have i1 : i < xs.length := by omega
  have i2 : i < ys.length := by omega
  obtain ⟨u, a1, b1⟩ := g1 i _ (List.getElem?_eq_getElem i1)
  obtain ⟨w, a2, b2⟩ := g2 i _ (List.getElem?_eq_getElem i2)
  refine ⟨⟨_, _, l1, l2, i1, i2⟩, fun y H' ⟨t, o, v', w', ev, nt, nd, eH, f1, f2⟩ => ?_⟩
  subst ev eH
  cases f1 u a1
  cases f2 w a2
  exact ⟨same_new nt, _, zip_at i1 i2, new_tup s nt nd (isDs_cons.mpr ⟨_, _, rfl, b1, .one b2⟩)⟩
def iZipM (l : Env → M (List Dat)) (ρ : Env) : M (List Dat) := l ρ >>= fun ds => match ds with
  | [a, b] => M.opt (itemsG a) >>= fun xs => M.opt (itemsG b) >>= fun ys => pure (zipD xs ys)
  | _ => M.no
theorem ji_zipG {X : XR} (x : XOk X) (hl : JA Z Er O tl ml) : JI Z Er O X (iZipG Z.K tl) (iZipM ml) := fun σ H p ρ S R hE hS q =>
  hl σ H p ρ S _ hE hS ((q.bnd xE).mono fun ds S1 H1 p1 e1 s1 q1 vs hv => by
    split at q1
    · obtain ⟨v, w, rfl, h1, h2⟩ := isDs_two hv
      obtain ⟨xs, ex, q1⟩ := Post.opt q1
      obtain ⟨ys, ey, q1⟩ := Post.opt q1
      obtain ⟨a, rfl, k1⟩ := src_of h1 ex
      obtain ⟨b, rfl, k2⟩ := src_of h2 ey
      exact ⟨a, b, _, _, rfl, (k1 H1 p1 Ext.refl).1, (k2 H1 p1 Ext.refl).1, q1.pure xE s1 _ (walks_zipG x k1 k2)⟩
    · exact (bad_no (S := S1) q1).elim)
def enumD (xs : List Dat) : List Dat := (List.range xs.length).zip xs |>.map fun q => .tup [.int (q.1 : Int), q.2]
theorem enum_len {xs : List Dat} : (enumD xs).length = xs.length := by unfold enumD; simp
theorem enum_at {xs : List Dat} {i : Nat} {d : Dat} (h : xs[i]? = some d) : (enumD xs)[i]? = some (.tup [.int (i : Int), d]) := by
  unfold enumD
  rw [List.getElem?_map, List.getElem?_zip_eq_some (z := (i, d)) |>.mpr ⟨List.getElem?_range (List.getElem?_eq_some_iff.mp h).1, h⟩]
  rfl
theorem walks_enumG {X : XR} (x : XOk X) {H : Hp} {p : Pl} {s1 : Src} {xs : List Dat} (h1 : ∀ H' p', Ext H p H' p' → s1.Of Z H' p' xs) : Walks Z X (IteG Z.K s1) (enumD xs) H p := fun H1 p1 S1 i e s => by
  obtain ⟨l1, g1⟩ := h1 H1 p1 (x.s e)
  rw [enum_len]
  refine ⟨fun lt => ?_, fun le => by subst le; exact l1⟩
  obtain ⟨u, a1, b1⟩ := g1 i _ (List.getElem?_eq_getElem lt)
  refine ⟨⟨_, l1, lt⟩, fun y H' ⟨t, o, v', ev, nt, nd, eH, f1⟩ => ?_⟩
  subst ev eH
  cases f1 u a1
  exact ⟨same_new nt, _, enum_at (List.getElem?_eq_getElem lt), new_tup s nt nd (isDs_cons.mpr ⟨_, _, rfl, isD_int.mpr rfl, .one b1⟩)⟩
def iEnM (l : Env → M (List Dat)) (ρ : Env) : M (List Dat) := l ρ >>= fun ds => match ds with
  | [a] => M.opt (itemsG a) >>= fun xs => pure (enumD xs)
  | _ => M.no
theorem ji_enumG {X : XR} (x : XOk X) (hl : JA Z Er O tl ml) : JI Z Er O X (iEnumG Z.K tl) (iEnM ml) := fun σ H p ρ S R hE hS q =>
  hl σ H p ρ S _ hE hS ((q.bnd xE).mono fun ds S1 H1 p1 e1 s1 q1 vs hv => by
    split at q1
    · obtain ⟨v, rfl, h1⟩ := isDs_one hv
      obtain ⟨xs, ex, q1⟩ := Post.opt q1
      obtain ⟨a, rfl, k1⟩ := src_of h1 ex
      exact ⟨a, _, rfl, (k1 H1 p1 Ext.refl).1, q1.pure xE s1 _ (walks_enumG x k1)⟩
    · exact (bad_no (S := S1) q1).elim)
/-- the signs of a text -/
theorem walks_str {X : XR} {H : Hp} {p : Pl} {x : Str} : Walks Z X (Its x) (signs x) H p := fun H1 p1 S1 i e s => by
  have el : (signs x).length = x.cps.size := by unfold signs; rw [List.length_map, Array.length_toList]
  rw [el]
  refine ⟨fun lt => ⟨lt, fun y H' ⟨eH, c, h1, h2⟩ => ?_⟩, fun le => Nat.le_of_eq le⟩
  subst eH h2
  refine ⟨Same.refl _, .str ⟨#[c]⟩, ?_, isD_str.mpr rfl⟩
  unfold signs
  rw [List.getElem?_map, Array.getElem?_toList, h1]
  rfl
def iStrM (a : Env → M Dat) (ρ : Env) : M (List Dat) := a ρ >>= fun d => M.opt (sT d) >>= fun x => pure (signs x)
theorem ji_str {X : XR} (ha : JD Z Er O ta m1) : JI Z Er O X (iStr ta) (iStrM m1) := fun σ H p ρ S R hE hS q =>
  ha σ H p ρ S _ hE hS ((q.bnd xE).mono fun d S1 H1 p1 e1 s1 q1 v hv => by
    obtain ⟨x, ex, q1⟩ := Post.opt q1
    rw [sT_is ex] at hv
    exact ⟨x, isD_str.mp hv, q1.pure xE s1 _ walks_str⟩)
end
end Zd
namespace Zd
open PySem PySem.Spec PyProof.Rows L2
section
variable {Z : Cz} {Er : ErW} {O : List Nat} {vs : Option (List Nat)} {te ta tb tc : TE} {tt tu : TT} {m m1 m2 m3 : Env → M Dat} {mb mc : Env → M Bool} {tl : TA} {ml : Env → M (List Dat)} {ts tr : TS} {ms mr : Env → M Flow}
def dFmt (d : Dat) : M Dat := match d with
  | .str x => M.need (decide (x.length ≤ 100000)) >>= fun _ => pure (.str x)
  | .int i => M.need (decide (i.natAbs.log2 < 1920)) >>= fun _ => pure (.str (toString i))
  | _ => M.no
theorem j_fmt (h : JD Z Er O te m) : JD Z Er O (tFmt te) (xUn dFmt m) := fun σ H p ρ S Q hE hS q =>
  h σ H p ρ S _ hE hS ((q.bnd xE).mono fun d S1 H1 p1 e1 s1 q1 v hv => by
    unfold dFmt at q1
    split at q1
    · obtain ⟨c, q1⟩ := Post.need q1
      exact .inl ⟨_, isD_str.mp hv, lim (of_decide_eq_true c), q1.pure xE s1 _ (isD_str.mpr rfl)⟩
    · obtain ⟨c, q1⟩ := Post.need q1
      exact .inr ⟨_, isD_int.mp hv, of_decide_eq_true c, q1.pure xE s1 _ (isD_str.mpr rfl)⟩
    · exact (bad_no (S := S1) q1).elim)
def xJs : List (Env → M Dat) → Str → Env → M Str
  | [], acc, _ => pure acc
  | m :: r, acc, ρ => m ρ >>= fun d => M.opt (sT d) >>= fun y => M.need (decide ((acc ++ y).length ≤ 100000)) >>= fun _ => xJs r (acc ++ y) ρ
inductive JJ (Z : Cz) (Er : ErW) (O : List Nat) : List TE → List (Env → M Dat) → Prop where
  | nil : JJ Z Er O [] []
  | cons {t : TE} {m : Env → M Dat} {ts : List TE} {ms : List (Env → M Dat)} (h : JD Z Er O t m) (r : JJ Z Er O ts ms) : JJ Z Er O (t :: ts) (m :: ms)
theorem jj_run {ts : List TE} {ms : List (Env → M Dat)} (h : JJ Z Er O ts ms) : ∀ (acc : Str) (σ : L2.St) (H : Hp) (p : Pl) (ρ : Env) (S : List Dat) (Q : Str → Hp → Prop), IsE Z O H p σ ρ → IsS Z H p S → Post Z Er ExtE (xJs ms acc ρ S) H p (fun y _ H' p' => Q y H') → tJs ts acc σ H Q := by
  induction h with
  | nil => exact fun acc σ H p ρ S Q hE hS q => q.pure xE hS
  | cons h r ih => exact fun acc σ H p ρ S Q hE hS q => h σ H p ρ S _ hE hS ((q.bnd xE).mono fun d S1 H1 p1 e1 s1 q1 v hv => by
      obtain ⟨y, ey, q1⟩ := Post.opt q1
      rw [sT_is ey] at hv
      obtain ⟨c, q1⟩ := Post.need q1
      exact ⟨y, isD_str.mp hv, lim (of_decide_eq_true c), ih _ σ H1 p1 ρ S1 _ (hE.ext e1 hS) s1 q1⟩)
def xJoined (l : List (Env → M Dat)) (ρ : Env) : M Dat := xJs l Str.empty ρ >>= fun y => pure (.str y)
theorem j_joined {ts : List TE} {ms : List (Env → M Dat)} (h : JJ Z Er O ts ms) : JD Z Er O (fun σ H Q => tJs ts Str.empty σ H fun out H1 => Q (.str out) H1) (xJoined ms) := fun σ H p ρ S Q hE hS q =>
  jj_run h _ σ H p ρ S _ hE hS ((q.bnd xE).mono fun y S1 H1 p1 e1 s1 q1 => q1.pure xE s1 _ (isD_str.mpr rfl))
def strsD : List Dat → Option (List Str)
  | [] => some []
  | .str x :: r => (strsD r).map (x :: ·)
  | _ => none
theorem strsD_is {H : Hp} {p : Pl} : ∀ {ds : List Dat} {vs : List V} {xs : List Str}, IsDs Z H p vs ds → strsD ds = some xs → vs = xs.map V.str
  | [], _, _, h, e => by cases e; exact isDs_nil.mp h
  | d :: ds, _, bs, h, e => by
    obtain ⟨v, r, rfl, h1, h2⟩ := isDs_cons.mp h
    cases d with
    | str b =>
      unfold strsD at e
      cases z : strsD ds with
      | none => rw [z] at e; cases e
      | some cs =>
        rw [z] at e
        cases e
        rw [isD_str.mp h1, strsD_is h2 z]
        rfl
    | _ => cases e
def xJoin (m1 m2 : Env → M Dat) (ρ : Env) : M Dat := m1 ρ >>= fun a => M.opt (sT a) >>= fun x => m2 ρ >>= fun b => M.opt (dLst b) >>= fun l => M.opt (strsD l) >>= fun ys => M.need (decide ((ys.map (·.length)).sum + ys.length * x.length ≤ 16777216)) >>= fun _ => pure (.str (Txt.join x ys))
theorem j_join (h1 : JD Z Er O ta m1) (h2 : JD Z Er O tb m2) : JD Z Er O (tM1 (fun x xs H Q => ∃ a p, ∃ ys : List Str, x = .str a ∧ xs = [.ref p] ∧ (SqL Z.K H p (ys.map V.str) ∨ SqT Z.K H p (ys.map V.str)) ∧
      (ys.map (·.length)).sum + ys.length * a.length ≤ 16777216 ∧ Q (.str (Txt.join a ys)) H) ta tb) (xJoin m1 m2) := fun σ H p ρ S Q hE hS q =>
  h1 σ H p ρ S _ hE hS ((q.bnd xE).mono fun d S1 H1 p1 e1 s1 q1 v hv => by
    obtain ⟨x, ex, q1⟩ := Post.opt q1
    rw [sT_is ex] at hv
    refine ⟨⟨x, isD_str.mp hv⟩, h2 σ H1 p1 ρ S1 _ (hE.ext e1 hS) s1 ((q1.bnd xE).mono fun e S2 H2 p2 e2 s2 q3 w hw => ?_)⟩
    obtain ⟨l, el, q3⟩ := Post.opt q3
    obtain ⟨ys, ey, q3⟩ := Post.opt q3
    obtain ⟨c, q3⟩ := Post.need q3
    rw [dLst_some el] at hw
    obtain ⟨a, us, rfl, g1, g2⟩ := isD_lst.mp hw
    rw [strsD_is g2 ey] at g1
    exact ⟨x, a, ys, isD_str.mp hv, rfl, .inl g1.sq, of_decide_eq_true c, q3.pure xE s2 _ (isD_str.mpr rfl)⟩)
def IsPs (Z : Cz) (H : Hp) (p : Pl) (vs : List (V × V)) (ps : List (Dat × Dat)) : Prop := IsDs Z H p (vs.map (·.1)) (ps.map (·.1)) ∧ IsDs Z H p (vs.map (·.2)) (ps.map (·.2))
inductive JPs (Z : Cz) (Er : ErW) (O : List Nat) : List (TE × TE) → List ((Env → M Dat) × (Env → M Dat)) → Prop where
  | nil : JPs Z Er O [] []
  | cons {t u : TE} {m n : Env → M Dat} {ts : List (TE × TE)} {ms : List ((Env → M Dat) × (Env → M Dat))} (h : JD Z Er O t m) (g : JD Z Er O u n) (r : JPs Z Er O ts ms) : JPs Z Er O ((t, u) :: ts) ((m, n) :: ms)
theorem jps_run {ts : List (TE × TE)} {ms : List ((Env → M Dat) × (Env → M Dat))} (h : JPs Z Er O ts ms) : ∀ (σ : L2.St) (H : Hp) (p : Pl) (ρ : Env) (S : List Dat) (Q : List (V × V) → Hp → Prop), IsE Z O H p σ ρ → IsS Z H p S → Post Z Er ExtE (xPairs ms ρ S) H p (fun ps _ H' p' => ∀ vs, IsPs Z H' p' vs ps → Q vs H') → tPairs ts σ H Q := by
  induction h with
  | nil => exact fun σ H p ρ S Q hE hS q => q.pure xE hS [] ⟨isDs_nil.mpr rfl, isDs_nil.mpr rfl⟩
  | cons h g r ih => exact fun σ H p ρ S Q hE hS q => h σ H p ρ S _ hE hS ((q.bnd xE).mono fun d S1 H1 p1 e1 s1 q1 v hv => g σ H1 p1 ρ S1 _ (hE.ext e1 hS) s1 ((q1.bnd xE).mono fun e S2 H2 p2 e2 s2 q2 w hw =>
      ih σ H2 p2 ρ S2 _ ((hE.ext e1 hS).ext e2 s1) s2 ((q2.bnd xE).mono fun l S3 H3 p3 e3 s3 q3 vs ⟨k1, k2⟩ => q3.pure xE s3 ((v, w) :: vs) ⟨isDs_cons.mpr ⟨v, _, rfl, hv.ext (e2.trans e3).s, k1⟩, isDs_cons.mpr ⟨w, _, rfl, hw.ext e3.s, k2⟩⟩)))
theorem keys_is {H : Hp} {p : Pl} : ∀ {ps : List (Dat × Dat)} {vs : List (V × V)} {ks : List Key}, IsPs Z H p vs ps → keysD ps = some ks → vs = (ks.zip (vs.map (·.2))).map (fun kv => (kV kv.1, kv.2)) ∧ ks.length = vs.length
  | [], vs, _, ⟨h, _⟩, e => by
    cases e
    cases vs with
    | nil => exact ⟨rfl, rfl⟩
    | cons _ _ => exact absurd (isDs_nil.mp h) nofun
  | (a, b) :: ps, vs, ks, ⟨h1, h2⟩, e => by
    cases vs with
    | nil => obtain ⟨_, _, z, _⟩ := isDs_cons.mp h1; cases z
    | cons v vs =>
      obtain ⟨x, r, z, g1, g2⟩ := isDs_cons.mp h1
      obtain ⟨y, r', z', g1', g2'⟩ := isDs_cons.mp h2
      cases z
      cases z'
      unfold keysD at e
      cases ek : keyD a with
      | none => rw [ek] at e; cases e
      | some k =>
        cases er : keysD ps with
        | none => rw [ek, er] at e; cases e
        | some kr =>
          rw [ek, er] at e
          cases e
          obtain ⟨q1, q2⟩ := keys_is (ps := ps) ⟨g2, g2'⟩ er
          refine ⟨?_, congrArg (· + 1) q2⟩
          rw [List.map_cons, List.zip_cons_cons, List.map_cons, ← q1, ← keyD_is g1 ek]
theorem val_no {k : Key} : ∀ {ks : List Key} {vs : List V}, ks.any (fun g => decide (g = k)) = false → valV (ks.zip vs) k = none
  | [], _, _ => rfl
  | g :: ks, [], _ => rfl
  | g :: ks, v :: vs, h => by
    rw [List.any_cons, Bool.or_eq_false_iff] at h
    rw [List.zip_cons_cons, valV_neg (of_decide_eq_false h.1), val_no h.2]
theorem nd_app {ks ms : List Key} {k : Key} : noDup (ks ++ k :: ms) = true → ks.any (fun g => decide (g = k)) = false ∧ noDup ((ks ++ [k]) ++ ms) = true := by
  intro h
  refine ⟨?_, by rw [List.append_assoc]; exact h⟩
  induction ks with
  | nil => rfl
  | cons g ks ih =>
    rw [List.cons_append] at h
    unfold noDup at h
    rw [Bool.and_eq_true, Bool.not_eq_true', List.any_append, Bool.or_eq_false_iff, List.any_cons, Bool.or_eq_false_iff] at h
    rw [List.any_cons, Bool.or_eq_false_iff]
    refine ⟨decide_eq_false fun e => of_decide_eq_false h.1.2.1 e.symm, ih h.2⟩
theorem merge_new : ∀ {ms ks : List Key} {us vs : List V}, noDup (ks ++ ms) = true → ks.length = vs.length → ms.length = us.length → mergeK (ks.zip vs) (ms.zip us) = (ks ++ ms).zip (vs ++ us)
  | [], ks, us, vs, _, h1, h2 => by
    have e : us = [] := List.length_eq_zero_iff.mp h2.symm
    subst e
    rw [List.append_nil, List.append_nil]
    rfl
  | k :: ms, ks, [], vs, _, h1, h2 => by cases h2
  | k :: ms, ks, u :: us, vs, h, h1, h2 => by
    obtain ⟨n1, n2⟩ := nd_app h
    rw [List.zip_cons_cons]
    show mergeK (putK (ks.zip vs) k u) (ms.zip us) = _
    rw [putK_new u (val_no n1)]
    have e : ks.zip vs ++ [(k, u)] = (ks ++ [k]).zip (vs ++ [u]) := by rw [List.zip_append h1]; rfl
    rw [e, merge_new n2 (by simp [h1]) (Nat.succ.inj h2), List.append_assoc, List.append_assoc]
    rfl
theorem jf_disp {trs : List (TE × TE)} {ms : List ((Env → M Dat) × (Env → M Dat))} (h : JPs Z Er O trs ms) : JF Z Er O (tDisp trs) (xDisp ms) := fun σ H p ρ S Q hE hS q D nD => by
  obtain ⟨hE2, hS2⟩ := own_new (o := .dK []) hE hS nD
  have eN : ExtE H p (upd H D (.dK [])) p := ExtE.new nD
  refine jps_run h σ _ _ ρ S _ hE2 hS2 ((q.bndK.up xE eN).plus.mono fun ps S1 H1 p1 e1 s1 q1 vs hv => ?_)
  have mD : D ∈ p.ω ++ [D] := List.mem_append_right _ (List.mem_singleton.mpr rfl)
  have hD : H1 D = some (.dK []) := e1.k D _ upd_same (hS2.dj D mD).1
  obtain ⟨ks, ek, q1⟩ := Post.opt q1
  obtain ⟨c, q1⟩ := Post.need q1
  rw [Bool.and_eq_true, decide_eq_true_eq] at c
  obtain ⟨k1, k2⟩ := keys_is hv ek
  refine ⟨hD, ks.zip (vs.map (·.2)), k1, by rw [List.length_zip]; exact Nat.le_trans (Nat.min_le_left _ _) c.2, ?_⟩
  have mk : mergeK [] (ks.zip (vs.map (·.2))) = ks.zip (vs.map (·.2)) := by
    have := merge_new (ks := []) (vs := []) (ms := ks) (us := vs.map (·.2)) c.1 rfl (by rw [List.length_map]; exact k2)
    exact this
  rw [mk]
  have mD1 : D ∈ p1.ω := by rw [e1.ω]; exact mD
  have ePut : Ext H1 p1 (L2.upd H1 D (.dK (ks.zip (vs.map (·.2))))) p1 := ext_put mD1
  have sPut := s1.put (o := .dK (ks.zip (vs.map (·.2)))) mD1
  have ep : p1 = ⟨p1.α, p.ω ++ [D], p.γ⟩ := by
    have h1 := e1.ω
    have h2 := e1.γ
    cases p1
    cases h1
    cases h2
    rfl
  have nh : ¬ (⟨p1.α, p.ω, p.γ⟩ : Pl).has D := by
    rintro (h | h | h)
    · exact (s1.dj D mD1).1 h
    · exact hS.wt D (.inl h) nD
    · exact hS.wt D (.inr h) nD
  have ex : ExtE H p (L2.upd H1 D (.dK (ks.zip (vs.map (·.2))))) ⟨p1.α, p.ω, p.γ⟩ := by
    have z : ExtE H p H1 ⟨p1.α, p.ω, p.γ⟩ := eN.trans ⟨e1.α, rfl, rfl, e1.k, e1.t⟩
    exact ⟨z.α, rfl, rfl, fun a o h n => by rw [upd_ne (ne_of_none h nD)]; exact z.k a o h n, fun a n => by rw [upd_ne fun c => n (by rw [c]; exact nD)]; exact z.t a n⟩
  have sL : IsS Z (L2.upd H1 D (.dK (ks.zip (vs.map (·.2))))) ⟨p1.α, p.ω, p1.γ⟩ S1 := (sPut.less (ω := p.ω) fun a h => by rw [e1.ω]; exact List.mem_append_left _ h)
  have eg : p1.γ = p.γ := e1.γ
  rw [eg] at sL
  refine q1 _ _ ex sL D nD (by rw [upd_same]; exact nofun) nh (by rw [← ep]; exact sPut) ?_
  rw [← ep]
  exact ⟨_, upd_same, by rw [List.length_map]; exact k2, hv.2.ext ePut⟩
end
end Zd
namespace Zd
open PySem PySem.Spec PyProof.Rows L2
open AutoSeq1 (wpAny_loadPart')
/-- its == says: not mine -/
def Mute (A : Around) (id : String) (s : Shared) (a b : Value) : Prop := ∀ (prog : Program) (w : World) (E : Value → Shared → Prop) (Q : Value → Shared → Prop), Q .notImplemented s → wpAny (model prog w) A (call (.builtin id) [a, b]) Q E s
/-- what is no float is asked so -/
def Plainly (A : Around) (s : Shared) (a b : Value) : Prop := ∀ (prog : Program) (w : World) (E : Value → Shared → Prop) (Q : Bool → Shared → Prop), wpAny (model prog w) A (richCompare .Eq a b) (fun v s' => wpAny (model prog w) A (truthOfDropped v) Q E s') E s → wpAny (model prog w) A (eqBool a b) Q E s
theorem eqAt_mute {s : Shared} {A : Around} {a b : Value} {T U i j : String} (pl : Plainly A s a b) (ha : s.TypeIs a T) (hb : s.TypeIs b U) (hTU : (Value.type T != Value.type U) = true) (hs : isSubtype (.type U) (.type T) = pure false) (h1 : Slot T (cmpInfo .Eq).2.1 i) (h2 : Slot U (cmpInfo .Eq).2.2 j)
    (m1 : Mute A i s a b) (m2 : Mute A j s b a) (sm : ∀ (prog : Program) (w : World) (E : Value → Shared → Prop) (Q : Bool → Shared → Prop), Q false s → wpAny (model prog w) A (isSame a b) Q E s) (hu : A.units < cLine) : SeqAt.EqAt A s a b false := fun prog w E Q q =>
  pl prog w E Q (SeqAt.rc_eq_decline_or (k := false) ha hb hTU hs h1 h2 (fun Q' q' => m1 prog w E Q' q') (fun Q' q' => m2 prog w E Q' q') (fun Q' q' => sm prog w E Q' q') (.inr hu) (wpAny_truthy_bool q))
/-- a dict lies there -/
def DAt (s : Shared) (d : Addr) : Prop := ∃ (dd : Option Addr) (es : Array DictEntry) (ep : Nat) (sl : Array (Option Value)), s.heap.get? d = some { cls := .type "dict", dict := dd, data := .dict es ep, slots := sl }
theorem DAt.ty {s : Shared} {d : Addr} (h : DAt s d) : s.TypeIs (.ref d) "dict" := let ⟨_, _, _, _, e⟩ := h; ⟨_, e, rfl⟩
theorem dict_mute {s : Shared} {A : Around} {d : Addr} {b : Value} {T : String} (hd : DAt s d) (hb : s.TypeIs b T) (hs : isSubtype (.type T) (.type "dict") = pure false) : Mute A "dict.__eq__" s (.ref d) b := fun prog w E Q q => by
  refine wpAny_call_entry PySem.F.slot_dict_eq hd.ty PySem.F.entry_dict_eq ?_ (PySem.F.args_dict_eq_2 _ _)
  change wpAny _ _ (Builtin.Dict.dictSlotArgs "__eq__" ⟨[.ref d, b], []⟩ >>= _) _ _ s
  refine wpAny_bind ?_
  unfold Builtin.Dict.dictSlotArgs
  refine wpAny_bind (wpAny_notOrdered_dict hd.ty ?_)
  change wpAny _ _ (pure (Value.ref d, b)) _ _ s
  refine wpAny_pure (wpAny_bind (wpAny_isInstance hb hs ?_))
  simp only [Bool.not_false, if_true]
  refine wpAny_bind (wpAny_rule ?_)
  exact wpAny_pure (by exact ⟨_, rfl, q⟩)
section
variable {d : Addr} {dd : Option Addr} {es : Array DictEntry} {ep : Nat} {sl : Array (Option Value)}
abbrev No (d : Addr) (dd : Option Addr) (es : Array DictEntry) (ep : Nat) (sl : Array (Option Value)) : PySem.Spec := fun _ R s => s.heap.get? d = some { cls := .type "dict", dict := dd, data := .dict es ep, slots := sl } ∧ R (.ok (.ret .notImplemented)) s
theorem no_non : Meets (Builtin.«NoneType.__eq__» ⟨[.none, .ref d], []⟩) (No d dd es ep sl) := .of_wp fun prog w A R s ⟨hl, h⟩ => by
  obtain ⟨hp, g, dr, tk, os⟩ := s
  wp_walk using wpAny_loadPart' hl, wpAny_load hl
  exact ⟨_, rfl, h⟩
theorem no_bl (b : Bool) : Meets (Builtin.«int.__eq__» ⟨[.bool b, .ref d], []⟩) (No d dd es ep sl) := .of_wp fun prog w A R s ⟨hl, h⟩ => by
  obtain ⟨hp, g, dr, tk, os⟩ := s
  wp_walk using wpAny_loadPart' hl, wpAny_load hl
  exact ⟨_, rfl, h⟩
theorem no_int (b : Int) (u : Tok) : Meets (Builtin.«int.__eq__» ⟨[.int b u, .ref d], []⟩) (No d dd es ep sl) := .of_wp fun prog w A R s ⟨hl, h⟩ => by
  obtain ⟨hp, g, dr, tk, os⟩ := s
  wp_walk using wpAny_loadPart' hl, wpAny_load hl
  exact ⟨_, rfl, h⟩
theorem no_str (b : Str) (u : Tok) : Meets (Builtin.«str.__eq__» ⟨[.str b u, .ref d], []⟩) (No d dd es ep sl) := .of_wp fun prog w A R s ⟨hl, h⟩ => by
  obtain ⟨hp, g, dr, tk, os⟩ := s
  wp_walk using wpAny_loadPart' hl, wpAny_load hl
  exact ⟨_, rfl, h⟩
theorem no_lst (l : Addr) (items : Array Value) (n : Nat) (d2 : Option Addr) (s2 : Array (Option Value)) : Meets (Builtin.«list.__eq__» ⟨[.ref l, .ref d], []⟩) (fun A R s => s.heap.get? l = some { cls := .type "list", dict := d2, data := .seq items n, slots := s2 } ∧ No d dd es ep sl A R s) := .of_wp fun prog w A R s ⟨hl, hd, h⟩ => by
  obtain ⟨hp, g, dr, tk, os⟩ := s
  have f1 := F.sub_dict_list
  wp_walk using wpAny_loadPart' hl, wpAny_load hl, wpAny_loadPart' hd, wpAny_load hd
  exact ⟨_, rfl, h⟩
theorem no_tup (l : Addr) (items : Array Value) (n : Nat) (d2 : Option Addr) (s2 : Array (Option Value)) : Meets (Builtin.«tuple.__eq__» ⟨[.ref l, .ref d], []⟩) (fun A R s => s.heap.get? l = some { cls := .type "tuple", dict := d2, data := .seq items n, slots := s2 } ∧ No d dd es ep sl A R s) := .of_wp fun prog w A R s ⟨hl, hd, h⟩ => by
  obtain ⟨hp, g, dr, tk, os⟩ := s
  have f1 := F.sub_dict_tuple
  wp_walk using wpAny_loadPart' hl, wpAny_load hl, wpAny_loadPart' hd, wpAny_load hd
  exact ⟨_, rfl, h⟩
end
end Zd
namespace Zd
open PySem PySem.Spec PyProof.Rows L2
inductive KD (s : Shared) : Value → Nat → Prop
  | non : KD s .none 0
  | bl (b : Bool) : KD s (.bool b) 1
  | int (i : Int) (t : Tok) : KD s (.int i t) 2
  | str (x : Str) (t : Tok) : KD s (.str x t) 3
  | lst {a : Addr} {its : Array Value} (h : s.heap.IsList a its) : KD s (.ref a) 4
  | tup {a : Addr} {its : Array Value} (h : s.heap.IsTuple a its) : KD s (.ref a) 5
  | dic {a : Addr} (h : DAt s a) : KD s (.ref a) 6
section
variable {s : Shared} {A : Around} {d : Addr} (hd : DAt s d) (hu : A.units < cLine)
include hd hu
theorem ea_non_d : SeqAt.EqAt A s .none (.ref d) false := by
  obtain ⟨dd, es, ep, sl, e⟩ := id hd
  exact eqAt_mute (by (intro prog w E Q q; unfold eqBool; refine wpAny_holding (wpAny_ite_split (fun hab => absurd (eq_of_beq hab) nofun) fun _ => wpAny_bind q))) rfl hd.ty (by decide) F.sub_dict_NoneType F.slot_NoneType_eq F.slot_dict_eq_refl (fun _ _ _ _ q => call_meets F.slot_NoneType_eq rfl F.entry_NoneType_eq (F.args_NoneType_eq_2 _ _) no_non ⟨e, q⟩) (dict_mute hd rfl F.sub_NoneType_dict) (fun _ _ _ _ q => wpAny_of_eq (rfl : isSame .none (.ref d) = pure false) q) hu
theorem ea_d_non : SeqAt.EqAt A s (.ref d) .none false := by
  obtain ⟨dd, es, ep, sl, e⟩ := id hd
  exact eqAt_mute (by (intro prog w E Q q; unfold eqBool; refine wpAny_holding (wpAny_ite_split (fun hab => absurd (eq_of_beq hab) nofun) fun _ => wpAny_bind q))) hd.ty rfl (by decide) F.sub_NoneType_dict F.slot_dict_eq F.slot_NoneType_eq_refl (dict_mute hd rfl F.sub_NoneType_dict) (fun _ _ _ _ q => call_meets F.slot_NoneType_eq_refl rfl F.entry_NoneType_eq (F.args_NoneType_eq_2 _ _) no_non ⟨e, q⟩) (fun _ _ _ _ q => wpAny_of_eq (rfl : isSame (.ref d) .none = pure false) q) hu
theorem ea_bl_d (b : Bool) : SeqAt.EqAt A s (.bool b) (.ref d) false := by
  obtain ⟨dd, es, ep, sl, e⟩ := id hd
  exact eqAt_mute (by (intro prog w E Q q; unfold eqBool; refine wpAny_holding (wpAny_ite_split (fun hab => absurd (eq_of_beq hab) nofun) fun _ => wpAny_bind q))) rfl hd.ty (by decide) F.sub_dict_bool F.slot_bool_eq F.slot_dict_eq_refl (fun _ _ _ _ q => call_meets F.slot_bool_eq rfl F.entry_int_eq (F.args_int_eq_2 _ _) (no_bl b) ⟨e, q⟩) (dict_mute hd rfl F.sub_bool_dict) (fun _ _ _ _ q => wpAny_of_eq (rfl : isSame (.bool b) (.ref d) = pure false) q) hu
theorem ea_d_bl (b : Bool) : SeqAt.EqAt A s (.ref d) (.bool b) false := by
  obtain ⟨dd, es, ep, sl, e⟩ := id hd
  exact eqAt_mute (by (intro prog w E Q q; unfold eqBool; refine wpAny_holding (wpAny_ite_split (fun hab => absurd (eq_of_beq hab) nofun) fun _ => wpAny_bind q))) hd.ty rfl (by decide) F.sub_bool_dict F.slot_dict_eq F.slot_bool_eq_refl (dict_mute hd rfl F.sub_bool_dict) (fun _ _ _ _ q => call_meets F.slot_bool_eq_refl rfl F.entry_int_eq (F.args_int_eq_2 _ _) (no_bl b) ⟨e, q⟩) (fun _ _ _ _ q => wpAny_of_eq (rfl : isSame (.ref d) (.bool b) = pure false) q) hu
theorem ea_int_d (b : Int) (t : Tok) : SeqAt.EqAt A s (.int b t) (.ref d) false := by
  obtain ⟨dd, es, ep, sl, e⟩ := id hd
  exact eqAt_mute (by (intro prog w E Q q; unfold eqBool; refine wpAny_holding (wpAny_ite_split (fun hab => absurd (eq_of_beq hab) nofun) fun _ => wpAny_bind q))) (typeIs_int s b t) hd.ty (by decide) F.sub_dict_int F.slot_int_eq F.slot_dict_eq_refl (fun _ _ _ _ q => call_meets F.slot_int_eq (typeIs_int s b t) F.entry_int_eq (F.args_int_eq_2 _ _) (no_int b t) ⟨e, q⟩) (dict_mute hd (typeIs_int s b t) F.sub_int_dict) (fun _ _ _ _ q => wpAny_of_eq (rfl : isSame (.int b t) (.ref d) = pure false) q) hu
theorem ea_d_int (b : Int) (t : Tok) : SeqAt.EqAt A s (.ref d) (.int b t) false := by
  obtain ⟨dd, es, ep, sl, e⟩ := id hd
  exact eqAt_mute (by (intro prog w E Q q; unfold eqBool; refine wpAny_holding (wpAny_ite_split (fun hab => absurd (eq_of_beq hab) nofun) fun _ => wpAny_bind q))) hd.ty (typeIs_int s b t) (by decide) F.sub_int_dict F.slot_dict_eq F.slot_int_eq_refl (dict_mute hd (typeIs_int s b t) F.sub_int_dict) (fun _ _ _ _ q => call_meets F.slot_int_eq_refl (typeIs_int s b t) F.entry_int_eq (F.args_int_eq_2 _ _) (no_int b t) ⟨e, q⟩) (fun _ _ _ _ q => wpAny_of_eq (rfl : isSame (.ref d) (.int b t) = pure false) q) hu
theorem ea_str_d (b : Str) (t : Tok) : SeqAt.EqAt A s (.str b t) (.ref d) false := by
  obtain ⟨dd, es, ep, sl, e⟩ := id hd
  exact eqAt_mute (by (intro prog w E Q q; unfold eqBool; refine wpAny_holding (wpAny_ite_split (fun hab => absurd (eq_of_beq hab) nofun) fun _ => wpAny_bind q))) (typeIs_str s b t) hd.ty (by decide) F.sub_dict_str F.slot_str_eq F.slot_dict_eq_refl (fun _ _ _ _ q => call_meets F.slot_str_eq (typeIs_str s b t) F.entry_str_eq (F.args_str_eq_2 _ _) (no_str b t) ⟨e, q⟩) (dict_mute hd (typeIs_str s b t) F.sub_str_dict) (fun _ _ _ _ q => wpAny_of_eq (rfl : isSame (.str b t) (.ref d) = pure false) q) hu
theorem ea_d_str (b : Str) (t : Tok) : SeqAt.EqAt A s (.ref d) (.str b t) false := by
  obtain ⟨dd, es, ep, sl, e⟩ := id hd
  exact eqAt_mute (by (intro prog w E Q q; unfold eqBool; refine wpAny_holding (wpAny_ite_split (fun hab => absurd (eq_of_beq hab) nofun) fun _ => wpAny_bind q))) hd.ty (typeIs_str s b t) (by decide) F.sub_str_dict F.slot_dict_eq F.slot_str_eq_refl (dict_mute hd (typeIs_str s b t) F.sub_str_dict) (fun _ _ _ _ q => call_meets F.slot_str_eq_refl (typeIs_str s b t) F.entry_str_eq (F.args_str_eq_2 _ _) (no_str b t) ⟨e, q⟩) (fun _ _ _ _ q => wpAny_of_eq (rfl : isSame (.ref d) (.str b t) = pure false) q) hu
theorem ea_lst_d {l : Addr} {its : Array Value} (hl : s.heap.IsList l its) : SeqAt.EqAt A s (.ref l) (.ref d) false := by
  obtain ⟨dd, es, ep, sl, e⟩ := id hd
  obtain ⟨⟨cls, d2, data, s2⟩, ho, hc, n, hdt⟩ := hl
  cases hc
  cases hdt
  have ne : l ≠ d := fun z => by rw [z, e] at ho; exact absurd (congrArg Obj.cls (Option.some.inj ho)) (by simp)
  refine eqAt_mute (fun prog w E Q q => ?_) (⟨_, ho, rfl⟩ : s.TypeIs (.ref l) "list") hd.ty (by decide) F.sub_dict_list F.slot_list_eq F.slot_dict_eq_refl (fun _ _ _ _ q => call_meets F.slot_list_eq ⟨_, ho, rfl⟩ F.entry_list_eq (F.args_list_eq_2 _ _) (no_lst l its n d2 s2) ⟨ho, e, q⟩) (dict_mute hd ⟨_, ho, rfl⟩ F.sub_list_dict) (fun _ _ _ _ q => SeqAt.wpAny_isSame_ref_other' ne ho e (by simp) q) hu
  unfold eqBool
  exact wpAny_holding (wpAny_ite_split (fun hab => absurd (by injection eq_of_beq hab) ne) fun _ => wpAny_bind q)
theorem ea_d_lst {l : Addr} {its : Array Value} (hl : s.heap.IsList l its) : SeqAt.EqAt A s (.ref d) (.ref l) false := by
  obtain ⟨dd, es, ep, sl, e⟩ := id hd
  obtain ⟨⟨cls, d2, data, s2⟩, ho, hc, n, hdt⟩ := hl
  cases hc
  cases hdt
  have ne : d ≠ l := fun z => by rw [← z, e] at ho; exact absurd (congrArg Obj.cls (Option.some.inj ho)) (by simp)
  refine eqAt_mute (fun prog w E Q q => ?_) hd.ty (⟨_, ho, rfl⟩ : s.TypeIs (.ref l) "list") (by decide) F.sub_list_dict F.slot_dict_eq F.slot_list_eq_refl (dict_mute hd ⟨_, ho, rfl⟩ F.sub_list_dict) (fun _ _ _ _ q => call_meets F.slot_list_eq_refl ⟨_, ho, rfl⟩ F.entry_list_eq (F.args_list_eq_2 _ _) (no_lst l its n d2 s2) ⟨ho, e, q⟩) (fun _ _ _ _ q => SeqAt.wpAny_isSame_ref_other' ne e ho (by simp) q) hu
  unfold eqBool
  exact wpAny_holding (wpAny_ite_split (fun hab => absurd (by injection eq_of_beq hab) ne) fun _ => wpAny_bind q)
theorem ea_tup_d {l : Addr} {its : Array Value} (hl : s.heap.IsTuple l its) : SeqAt.EqAt A s (.ref l) (.ref d) false := by
  obtain ⟨dd, es, ep, sl, e⟩ := id hd
  obtain ⟨⟨cls, d2, data, s2⟩, ho, hc, n, hdt⟩ := hl
  cases hc
  cases hdt
  have ne : l ≠ d := fun z => by rw [z, e] at ho; exact absurd (congrArg Obj.cls (Option.some.inj ho)) (by simp)
  refine eqAt_mute (fun prog w E Q q => ?_) (⟨_, ho, rfl⟩ : s.TypeIs (.ref l) "tuple") hd.ty (by decide) F.sub_dict_tuple F.slot_tuple_eq F.slot_dict_eq_refl (fun _ _ _ _ q => call_meets F.slot_tuple_eq ⟨_, ho, rfl⟩ F.entry_tuple_eq (F.args_tuple_eq_2 _ _) (no_tup l its n d2 s2) ⟨ho, e, q⟩) (dict_mute hd ⟨_, ho, rfl⟩ F.sub_tuple_dict) (fun _ _ _ _ q => SeqAt.wpAny_isSame_ref_other' ne ho e (by simp) q) hu
  unfold eqBool
  exact wpAny_holding (wpAny_ite_split (fun hab => absurd (by injection eq_of_beq hab) ne) fun _ => wpAny_bind q)
theorem ea_d_tup {l : Addr} {its : Array Value} (hl : s.heap.IsTuple l its) : SeqAt.EqAt A s (.ref d) (.ref l) false := by
  obtain ⟨dd, es, ep, sl, e⟩ := id hd
  obtain ⟨⟨cls, d2, data, s2⟩, ho, hc, n, hdt⟩ := hl
  cases hc
  cases hdt
  have ne : d ≠ l := fun z => by rw [← z, e] at ho; exact absurd (congrArg Obj.cls (Option.some.inj ho)) (by simp)
  refine eqAt_mute (fun prog w E Q q => ?_) hd.ty (⟨_, ho, rfl⟩ : s.TypeIs (.ref l) "tuple") (by decide) F.sub_tuple_dict F.slot_dict_eq F.slot_tuple_eq_refl (dict_mute hd ⟨_, ho, rfl⟩ F.sub_tuple_dict) (fun _ _ _ _ q => call_meets F.slot_tuple_eq_refl ⟨_, ho, rfl⟩ F.entry_tuple_eq (F.args_tuple_eq_2 _ _) (no_tup l its n d2 s2) ⟨ho, e, q⟩) (fun prog w E Q q => ?_) hu
  · unfold eqBool
    exact wpAny_holding (wpAny_ite_split (fun hab => absurd (by injection eq_of_beq hab) ne) fun _ => wpAny_bind q)
  · exact PySem.wpAny_isSame_ref_other ne e ho (by simp) q
end
theorem ea_kinds {s : Shared} {A : Around} (hu : A.units < cLine) {v u : Value} {i j : Nat} (h1 : KD s v i) (h2 : KD s u j) (ne : i ≠ j) (nb : ¬ (i = 1 ∧ j = 2)) (nb' : ¬ (i = 2 ∧ j = 1)) : SeqAt.EqAt A s v u false :=
  match h1, h2 with
  | .non, .non => absurd rfl ne
  | .non, .bl b2 => SeqAt.EqAt.none_bool b2
  | .non, .int b2 t2 => SeqAt.EqAt.none_int b2 t2
  | .non, .str b2 t2 => SeqAt.EqAt.none_str b2 t2
  | .non, .lst q2 => SeqAt.EqAt.none_list q2 hu
  | .non, .tup q2 => SeqAt.EqAt.none_tuple q2 hu
  | .non, .dic q2 => ea_non_d q2 hu 
  | .bl b1, .non => SeqAt.EqAt.bool_none b1
  | .bl b1, .bl b2 => absurd rfl ne
  | .bl b1, .int b2 t2 => absurd ⟨rfl, rfl⟩ nb
  | .bl b1, .str b2 t2 => SeqAt.EqAt.bool_str b1 b2 t2
  | .bl b1, .lst q2 => SeqAt.EqAt.bool_list b1 q2 hu
  | .bl b1, .tup q2 => SeqAt.EqAt.bool_tuple b1 q2 hu
  | .bl b1, .dic q2 => ea_bl_d q2 hu b1
  | .int b1 t1, .non => SeqAt.EqAt.int_none b1 t1
  | .int b1 t1, .bl b2 => absurd ⟨rfl, rfl⟩ nb'
  | .int b1 t1, .int b2 t2 => absurd rfl ne
  | .int b1 t1, .str b2 t2 => SeqAt.EqAt.int_str b1 t1 b2 t2
  | .int b1 t1, .lst q2 => SeqAt.EqAt.int_list b1 t1 q2 hu
  | .int b1 t1, .tup q2 => SeqAt.EqAt.int_tuple b1 t1 q2 hu
  | .int b1 t1, .dic q2 => ea_int_d q2 hu b1 t1
  | .str b1 t1, .non => SeqAt.EqAt.str_none b1 t1
  | .str b1 t1, .bl b2 => SeqAt.EqAt.str_bool b1 t1 b2
  | .str b1 t1, .int b2 t2 => SeqAt.EqAt.str_int b1 t1 b2 t2
  | .str b1 t1, .str b2 t2 => absurd rfl ne
  | .str b1 t1, .lst q2 => SeqAt.EqAt.str_list b1 t1 q2 hu
  | .str b1 t1, .tup q2 => SeqAt.EqAt.str_tuple b1 t1 q2 hu
  | .str b1 t1, .dic q2 => ea_str_d q2 hu b1 t1
  | .lst q1, .non => SeqAt.EqAt.list_none q1 hu
  | .lst q1, .bl b2 => SeqAt.EqAt.list_bool b2 q1 hu
  | .lst q1, .int b2 t2 => SeqAt.EqAt.list_int b2 t2 q1 hu
  | .lst q1, .str b2 t2 => SeqAt.EqAt.list_str b2 t2 q1 hu
  | .lst q1, .lst q2 => absurd rfl ne
  | .lst q1, .tup q2 => SeqAt.EqAt.list_tuple q1 q2 hu
  | .lst q1, .dic q2 => ea_lst_d q2 hu q1
  | .tup q1, .non => SeqAt.EqAt.tuple_none q1 hu
  | .tup q1, .bl b2 => SeqAt.EqAt.tuple_bool b2 q1 hu
  | .tup q1, .int b2 t2 => SeqAt.EqAt.tuple_int b2 t2 q1 hu
  | .tup q1, .str b2 t2 => SeqAt.EqAt.tuple_str b2 t2 q1 hu
  | .tup q1, .lst q2 => SeqAt.EqAt.tuple_list q1 q2 hu
  | .tup q1, .tup q2 => absurd rfl ne
  | .tup q1, .dic q2 => ea_tup_d q2 hu q1
  | .dic q1, .non => ea_d_non q1 hu 
  | .dic q1, .bl b2 => ea_d_bl q1 hu b2
  | .dic q1, .int b2 t2 => ea_d_int q1 hu b2 t2
  | .dic q1, .str b2 t2 => ea_d_str q1 hu b2 t2
  | .dic q1, .lst q2 => ea_d_lst q1 hu q2
  | .dic q1, .tup q2 => ea_d_tup q1 hu q2
  | .dic q1, .dic q2 => absurd rfl ne
def kdT : Dat → Option Nat
  | .non => some 0
  | .bl _ => some 1
  | .int _ => some 2
  | .str _ => some 3
  | .lst _ => some 4
  | .tup _ => some 5
  | .dic _ _ => some 6
  | _ => none
section
variable {X : Cx} {pins : List (Addr × Obj)} {σ : L2.St} {H : Hp} {s : Shared} {Z : Cz} {p : Pl}
theorem kd_of (I : Inv X pins σ H s) (hK : X.K = Z.K) {d : Dat} {i : Nat} {x : V} {v : Value} (h : IsD Z H p x d) (e : kdT d = some i) (r : RelV x v) : KD s v i := by
  cases d with
  | non => cases e; rw [isD_non.mp h] at r; cases r; exact .non
  | bl b => cases e; rw [isD_bl.mp h] at r; cases r; exact .bl b
  | int b => cases e; rw [isD_int.mp h] at r; obtain ⟨t, rfl⟩ := r; exact .int b t
  | str b => cases e; rw [isD_str.mp h] at r; obtain ⟨t, rfl⟩ := r; exact .str b t
  | lst ds =>
    cases e
    obtain ⟨a, vs, rfl, h1, _⟩ := isD_lst.mp h
    cases (show v = Value.ref a from r)
    have h1 := h1.sq
    rw [← hK] at h1
    obtain ⟨its, _, q, _⟩ := I.list h1
    exact .lst q.isList
  | tup ds =>
    cases e
    obtain ⟨a, vs, rfl, h1, _⟩ := isD_tup.mp h
    cases (show v = Value.ref a from r)
    have h1 := h1.sq
    rw [← hK] at h1
    obtain ⟨its, _, q, _⟩ := I.tuple h1
    exact .tup q
  | dic ks ds =>
    cases e
    obtain ⟨a, vs, rfl, h1, _⟩ := isD_dic.mp h
    cases (show v = Value.ref a from r)
    obtain ⟨_, _, ws, _, o, es, ep, ho, hx, hdt, _⟩ := dk_of I.hok h1.1
    refine .dic ?_
    obtain ⟨cls, dd, data, sl⟩ := o
    have hc : cls = .type "dict" := hx.1
    cases hc
    cases hdt
    exact ⟨dd, es, ep, sl, ho⟩
  | _ => cases e
end
end Zd
namespace Zd
open PySem PySem.Spec PyProof.Rows L2
/-- x in texts -/
def isS (w : Dat) (xs : List Str) : Bool := match w with
  | .str y => xs.any fun z => z == y
  | _ => false
def rInS (Z : Cz) (neg : Bool) : R2 := fun x y H Q => ∃ (p : Pl) (a : Addr) (d : Dat) (i : Nat) (xs : List Str), y = .ref a ∧ (SqT Z.K H a (xs.map V.str) ∨ SqL Z.K H a (xs.map V.str)) ∧ IsD Z H p x d ∧ kdT d = some i ∧ Q (.bl (neg != isS d xs)) H
def tokS (y : Value) (d : Dat) : Bool := match y, d with
  | .str z _, .str w => z == w
  | _, _ => false
theorem any_tok {d : Dat} : ∀ {xs : List Str} {us : List Value}, Vals (xs.map V.str) us → us.toArray.any (fun y => tokS y d) = isS d xs := by
  intro xs us r
  rw [List.any_toArray]
  induction xs generalizing us with
  | nil => cases r; cases d <;> rfl
  | cons x xs ih =>
    cases r with
    | cons h t =>
      obtain ⟨k, rfl⟩ := h
      rw [List.any_cons, ih t]
      cases d <;> first | rfl | simp [isS, tokS]
theorem tok_at {X : Cx} {pins : List (Addr × Obj)} {σ : L2.St} {H : Hp} {s : Shared} {Z : Cz} {p : Pl} (I : Inv X pins σ H s) (hK : X.K = Z.K) {A : Around} (hu : A.units < cLine) {d : Dat} {i : Nat} {x : V} {v : Value} (hx : IsD Z H p x d) (hi : kdT d = some i) (rx : RelV x v) {z : Str} {t : Tok} : SeqAt.EqAt A s (.str z t) v (tokS (.str z t) d) := by
  have k := kd_of I hK hx hi rx
  cases d with
  | str w =>
    have e1 := isD_str.mp hx
    subst e1
    obtain ⟨t2, rfl⟩ := rx
    exact .str_str z t w t2
  | _ => first | (cases hi; done) | (cases hi; exact ea_kinds hu (.str z t) k (by decide) (by decide) (by decide))
theorem op_inS {X : Cx} {Z : Cz} {neg : Bool} (hu : X.A.units + 70 < cLine) (hK : X.K = Z.K) : OpR X (compareOp (if neg then .NotIn else .In)) (rInS Z neg) := by
  intro pins s σ H x y v u Q I rx ry ⟨p, a, d, i, xs, ey, hy, hx, hi, k⟩
  subst ey
  cases (show u = Value.ref a from ry)
  have at_ : ∀ {us : List Value}, Vals (xs.map V.str) us → ∀ y, y ∈ us.toArray → SeqAt.EqAt X.A.in1 s y v (tokS y d) := fun {us} r y hm => by
    have hm : y ∈ us := by simpa using hm
    obtain ⟨j, lt, rfl⟩ := List.getElem_of_mem hm
    have lx : j < xs.length := by have := r.length; rw [List.length_map] at this; omega
    obtain ⟨w, g1, g2⟩ := r.get (i := j) (x := .str xs[j]) (by simp [lx])
    rw [List.getElem?_eq_getElem lt] at g1
    cases g1
    obtain ⟨t, e⟩ := (show ∃ t, us[j] = Value.str xs[j] t from g2)
    rw [e]
    exact tok_at I hK (by show X.A.units + 1 < cLine; omega) hx hi rx
  rcases hy with hy | hy
  · rw [← hK] at hy
    obtain ⟨its, rv, pt, _⟩ := I.tuple hy
    cases neg with
    | false =>
      refine SeqAt.in_tupleAt (fun y => tokS y d) pt (at_ rv) ?_
      rw [any_tok rv]
      rw [Bool.false_bne] at k
      exact ⟨.bl _, H, I, rfl, k⟩
    | true =>
      refine SeqAt.notIn_tupleAt (fun y => tokS y d) pt (at_ rv) ?_
      rw [any_tok rv]
      rw [Bool.true_bne] at k
      exact ⟨.bl _, H, I, rfl, k⟩
  · rw [← hK] at hy
    obtain ⟨its, rv, pt, _⟩ := I.list hy
    cases neg with
    | false =>
      refine SeqAt.in_listAt (fun y => tokS y d) pt.isList (at_ rv) ?_
      rw [any_tok rv]
      rw [Bool.false_bne] at k
      exact ⟨.bl _, H, I, rfl, k⟩
    | true =>
      refine SeqAt.notIn_listAt (fun y => tokS y d) pt.isList (at_ rv) ?_
      rw [any_tok rv]
      rw [Bool.true_bne] at k
      exact ⟨.bl _, H, I, rfl, k⟩
def dInS (neg : Bool) (d e : Dat) : M Dat := M.opt (kdT d) >>= fun _ => M.opt ((itemsOf e).bind strsD) >>= fun xs => pure (.bl (neg != isS d xs))
theorem r_inS {Z : Cz} {neg : Bool} : JR Z (IsD Z) (IsW Z) (IsD Z) (rInS Z neg) (dInS neg) := fun x y d e Er H p S Q hx hy s q => by
  obtain ⟨i, ei, q1⟩ := q.opt
  obtain ⟨xs, ex, q2⟩ := q1.opt
  clear q q1
  cases e with
  | tup ds =>
    have hy : IsD Z H p y (.tup ds) := hy
    obtain ⟨a, vs, rfl, h1, h2⟩ := isD_tup.mp hy
    have h1 := h1.sq
    rw [strsD_is h2 ex] at h1
    exact ⟨p, a, d, i, xs, rfl, .inl h1, hx, ei, q2.pure xE s _ (isD_bl.mpr rfl)⟩
  | lst ds =>
    obtain ⟨a, vs, rfl, h1, h2⟩ := hy
    have h1 := SqL.of (K := Z.K) h1.1
    rw [strsD_is h2 ex] at h1
    exact ⟨p, a, d, i, xs, rfl, .inr h1, hx, ei, q2.pure xE s _ (isD_bl.mpr rfl)⟩
  | _ => cases ex
end Zd
namespace Zd
open PySem PySem.Spec PyProof.Rows L2
mutual
def toPyD : Dat → Option PyData
  | .non => some .none
  | .bl b => some (.bool b)
  | .int i => some (.int i)
  | .str x => some (.str x)
  | .tup ds => (toPysD ds).map .tuple
  | .dic ks _ => if ks.isEmpty then some (.dict []) else none
  | _ => none
def toPysD : List Dat → Option (List PyData)
  | [] => some []
  | d :: ds => (toPyD d).bind fun x => (toPysD ds).map (x :: ·)
end
section
variable {X : Cx} {pins : List (Addr × Obj)} {σ : L2.St} {H : Hp} {s : Shared} {Z : Cz} {p : Pl}
theorem d0_reads {a : Addr} (I : Inv X pins σ H s) (ea : H a = some (.dK [])) : ∃ as, Reads s.heap (.ref a) (.dict []) as ∧ sysModules ∉ as := by
  obtain ⟨_, nsm, vs, hkv, o, es, ep, ho, ⟨hc, _, _⟩, hdat, _, hp, _⟩ := (I.hok a _ ea : ObjOk X.prog X.w H s.heap a (.dK []))
  cases hkv
  have e0 : es.toList = [] := by
    generalize es.toList = l at hp
    cases hp
    rfl
  refine ⟨_, Reads.dict (as := []) (bs := []) ho hc hdat (by rw [e0]; exact .nil) (by rw [e0]; exact .nil), fun hm => ?_⟩
  rw [List.append_nil, List.mem_singleton] at hm
  rw [← hm] at nsm
  simp at nsm
mutual
theorem IsD.readsD (I : Inv X pins σ H s) (hK : X.K = Z.K) : ∀ (d : Dat) {v : V} {y : PyData} {u : Value}, IsD Z H p v d → toPyD d = some y → RelV v u → ∃ as, Reads s.heap u y as ∧ sysModules ∉ as
  | .non, _, _, _, h, e, r => by rw [toPyD] at e; cases e; rw [isD_non.mp h] at r; cases r; exact ⟨_, .none, List.not_mem_nil⟩
  | .bl b, _, _, _, h, e, r => by rw [toPyD] at e; cases e; rw [isD_bl.mp h] at r; cases r; exact ⟨_, .bool b, List.not_mem_nil⟩
  | .int i, _, _, _, h, e, r => by rw [toPyD] at e; cases e; rw [isD_int.mp h] at r; obtain ⟨t, rfl⟩ := r; exact ⟨_, .int i t, List.not_mem_nil⟩
  | .str x, _, _, _, h, e, r => by rw [toPyD] at e; cases e; rw [isD_str.mp h] at r; obtain ⟨t, rfl⟩ := r; exact ⟨_, .str x t, List.not_mem_nil⟩
  | .tup ds, _, y, u, h, e, r => by
    obtain ⟨a, vs, rfl, h1, h2⟩ := isD_tup.mp h
    cases (show u = Value.ref a from r)
    rw [toPyD] at e
    cases e2 : toPysD ds with
    | none => rw [e2] at e; cases e
    | some ys =>
      rw [e2] at e
      cases e
      have h1 := h1.sq
      rw [← hK] at h1
      obtain ⟨its, rv, ⟨o, eo, co, n, dn⟩, _⟩ := I.tuple h1
      obtain ⟨as, q, no⟩ := IsDs.readsD I hK ds h2 e2 rv
      exact ⟨_, .tuple eo co dn q, no⟩
  | .dic ks ds, _, _, u, h, e, r => by
    obtain ⟨a, vs, rfl, h1, hl, h2⟩ := isD_dic.mp h
    cases (show u = Value.ref a from r)
    rw [toPyD] at e
    cases ks with
    | nil => cases e; exact d0_reads I h1.1
    | cons _ _ => cases e
  | .lst _, _, _, _, _, e, _ => by rw [toPyD] at e <;> first | cases e | nofun
  | .obj _ _ _, _, _, _, _, e, _ => by rw [toPyD] at e <;> first | cases e | nofun
  | .loc _, _, _, _, _, e, _ => by rw [toPyD] at e <;> first | cases e | nofun
  | .ty _, _, _, _, _, e, _ => by rw [toPyD] at e <;> first | cases e | nofun
  | .cls _, _, _, _, _, e, _ => by rw [toPyD] at e <;> first | cases e | nofun
  | .scr _, _, _, _, _, e, _ => by rw [toPyD] at e <;> first | cases e | nofun
theorem IsDs.readsD (I : Inv X pins σ H s) (hK : X.K = Z.K) : ∀ (ds : List Dat) {vs : List V} {ys : List PyData} {us : List Value}, IsDs Z H p vs ds → toPysD ds = some ys → Vals vs us → ∃ as, ReadsAll s.heap us ys as ∧ sysModules ∉ as
  | [], _, _, _, h, e, r => by rw [toPysD] at e; cases e; rw [isDs_nil.mp h] at r; cases r; exact ⟨_, .nil, List.not_mem_nil⟩
  | d :: ds, _, ys, _, h, e, r => by
    obtain ⟨v, vr, rfl, h1, h2⟩ := isDs_cons.mp h
    rw [toPysD] at e
    cases e1 : toPyD d with
    | none => rw [e1] at e; cases e
    | some x =>
      cases e2 : toPysD ds with
      | none => rw [e1, e2] at e; cases e
      | some xs =>
        rw [e1, e2] at e
        cases e
        cases r with
        | cons r1 r2 =>
          obtain ⟨as, q1, n1⟩ := IsD.readsD I hK d h1 e1 r1
          obtain ⟨bs, q2, n2⟩ := IsDs.readsD I hK ds h2 e2 r2
          exact ⟨_, .cons q1 q2, fun hm => (List.mem_append.mp hm).elim n1 n2⟩
end
end
def okShowD (y : PyData) : Bool := y.showable && decide (y.depth ≤ 64) && decide (y.shown.length ≤ sizeLine)
def isRf : Dat → Bool
  | .tup _ => true
  | .dic _ _ => true
  | _ => false
theorem rf_is {H : Hp} {Z : Cz} {p : Pl} {d : Dat} {x : V} (h : IsD Z H p x d) (r : isRf d = true) : ∃ a, x = .ref a := by
  cases d with
  | tup _ => obtain ⟨a, _, e, _⟩ := isD_tup.mp h; exact ⟨a, e⟩
  | dic _ _ => obtain ⟨a, _, e, _⟩ := isD_dic.mp h; exact ⟨a, e⟩
  | _ => cases r
def rRepr2 (Z : Cz) : List V → Hp → VK → Prop := fun xs H Q => Zg.rReprD Z.K xs H Q ∨ ∃ (p : Pl) (d : Dat) (x : V) (y : PyData), xs = [x] ∧ IsD Z H p x d ∧ isRf d = true ∧ toPyD d = some y ∧ okShowD y = true ∧ Q (.str y.shown) H
theorem call_repr2 {X : Cx} {Z : Cz} (hg : Zg.Calm X.A) (hu : X.A.units + 70 < cLine) (hK : X.K = Z.K) : CallR X (.builtin "repr") (rRepr2 Z) := by
  intro pins s σ H xs us Q I r h
  rcases h with h | ⟨p, d, x, y, rfl, hx, rf, e, ok, q⟩
  · rw [← hK] at h
    exact Zg.call_reprD hg hu pins s σ H xs us Q I r h
  · unfold okShowD at ok
    simp only [Bool.and_eq_true, decide_eq_true_eq] at ok
    obtain ⟨u, rfl, rx⟩ := vals1 r
    obtain ⟨a, rfl⟩ := rf_is hx rf
    obtain ⟨as, rd, no⟩ := IsD.readsD I hK d hx e rx
    cases (show u = Value.ref a from rx)
    exact repr_of_reads' rd ok.1.1 (fun _ => no) hg (by omega) (fun _ _ e => e) (fun h' u tk hk => ⟨.str _, H, I.kept (t' := tk) hk, ⟨_, rfl⟩, q⟩) ok.2
def dRepr2 (ds : List Dat) : M Dat := match ds with
  | [d] => match toPy d with
    | some y => M.need (okShow y) >>= fun _ => pure (.str y.shown)
    | none => M.need (isRf d) >>= fun _ => M.opt (toPyD d) >>= fun y => M.need (okShowD y) >>= fun _ => pure (.str y.shown)
  | _ => M.no
theorem c_repr2 {Z : Cz} : JC Z (IsDs Z) (IsD Z) (rRepr2 Z) dRepr2 := fun x ds Er H p S Q hx s q => by
  match ds, hx, q with
  | [d], hx, q =>
    obtain ⟨v, rfl, hv⟩ := isDs_one hx
    cases e : toPy d with
    | some y =>
      have q : Post Z Er ExtE ((M.need (okShow y) >>= fun _ => pure (Dat.str y.shown)) S) H p (fun a _ H' p' => ∀ v, IsD Z H' p' v a → Q v H') := by
        unfold dRepr2 at q
        simp only [e] at q
        exact q
      obtain ⟨c, q⟩ := q.need
      unfold okShow at c
      simp only [Bool.and_eq_true, decide_eq_true_eq, Bool.not_eq_true'] at c
      refine .inl ⟨v, y, rfl, hv.dp _ e, c.1.1.1.1, c.1.1.1.2, c.1.1.2, c.1.2, fun i z => ?_, q.pure xE s _ (isD_str.mpr rfl)⟩
      subst z
      have hd := hv.dp _ e
      cases hd
      have c2 := c.2
      simp only [decide_eq_true_eq] at c2
      exact c2
    | none =>
      have q : Post Z Er ExtE ((M.need (isRf d) >>= fun _ => M.opt (toPyD d) >>= fun y => M.need (okShowD y) >>= fun _ => pure (Dat.str y.shown)) S) H p (fun a _ H' p' => ∀ v, IsD Z H' p' v a → Q v H') := by
        unfold dRepr2 at q
        simp only [e] at q
        exact q
      obtain ⟨c, q⟩ := q.need
      obtain ⟨y, ey, q⟩ := q.opt
      obtain ⟨c2, q⟩ := q.need
      exact .inr ⟨p, d, v, y, rfl, hv, c, ey, c2, q.pure xE s _ (isD_str.mpr rfl)⟩
  | [], _, q => exact (bad_no (S := S) q).elim
  | _ :: _ :: _, _, q => exact (bad_no (S := S) q).elim
end Zd
namespace Zd
open PySem PySem.Spec PyProof.Rows L2 Zg
theorem nin {i : Nat} : i ∉ ([] : List Nat) := List.not_mem_nil
theorem lt_units {n : Nat} (h : n + 64 < cLine) : n + 1 < cLine := by omega
theorem hu70 {k : Nat} {A : Around} (r : Room k A) : A.units + 70 < cLine := by
  have := r.un
  omega
def Cal (P : Program) (w : World) (K : PySem.W.Frag) (mg : Str → Option Value) (base : Heap) (k : Nat) (x : Str) (ps : List Str) (sp : Sp) : Prop :=
  ∃ (f : Addr) (fd : FuncData), FnOk P w K mg base CX0 k f fd ps sp ∧ Binds K fd ps [] ∧ mg x = some (.ref f) ∧ PySem.W.keepIn K (.ref f) = true
def CalG (P : Program) (w : World) (K : PySem.W.Frag) (mg : Str → Option Value) (base : Heap) (k : Nat) (x : Str) (ps : List Str) (sp : Sp) : Prop :=
  ∃ (f : Addr) (fd : FuncData), FnG P w K mg base CX0 k f fd ps sp ∧ Binds K fd ps [] ∧ mg x = some (.ref f) ∧ PySem.W.keepIn K (.ref f) = true
/-- builtins whose names the module leaves alone -/
structure TxD (mg : Str → Option Value) : Prop where
  n_int : mg "int" = none
  n_len : mg "len" = none
  n_abs : mg "abs" = none
  n_bool : mg "bool" = none
  n_tuple : mg "tuple" = none
  n_isinstance : mg "isinstance" = none
  n_range : mg "range" = none
  n_max : mg "max" = none
  n_min : mg "min" = none
  n_all : mg "all" = none
  n_repr : mg "repr" = none
  n_str : mg "str" = none
  n_any : mg "any" = none
  n_list : mg "list" = none
  n_zip : mg "zip" = none
  n_enumerate : mg "enumerate" = none
def strsT (xs : List Str) : Dat := .tup (xs.map .str)
theorem strs_of {Z : Cz} {H : Hp} {p : Pl} : ∀ {xs : List Str}, IsDs Z H p (xs.map V.str) (xs.map Dat.str)
  | [] => isDs_nil.mpr rfl
  | x :: xs => isDs_cons.mpr ⟨_, _, rfl, isD_str.mpr rfl, strs_of⟩
/-- a module's tuple of texts -/
structure GTup (K : PySem.W.Frag) (mg : Str → Option Value) (nm : Str) (a : Addr) (xs : List Str) : Prop where
  g : mg nm = some (.ref a)
  sq : TupC K a (xs.map V.str)
theorem GTup.isD {K : PySem.W.Frag} {mg : Str → Option Value} {nm : Str} {a : Addr} {xs : List Str} (h : GTup K mg nm a xs) {κ : String → Addr} (H : Hp) (p : Pl) : IsD ⟨K, κ⟩ H p (.ref a) (strsT xs) := isD_tup.mpr ⟨a, _, rfl, .inr h.sq, strs_of⟩
def strsOf : List Value → Option (List Str)
  | [] => some []
  | .str x _ :: r => (strsOf r).map (x :: ·)
  | _ :: _ => none
theorem vals_strsOf : ∀ {us : List Value} {xs : List Str}, strsOf us = some xs → Vals (xs.map V.str) us
  | [], xs, h => by cases h; exact .nil
  | u :: r, xs, h => by
    cases u with
    | str x t =>
      unfold strsOf at h
      cases q : strsOf r with
      | none => rw [q] at h; cases h
      | some ys => rw [q] at h; cases h; exact .cons ⟨t, rfl⟩ (vals_strsOf q)
    | _ => cases h
/-- the texts of a written tuple -/
def tupW (K : PySem.W.Frag) (a : Addr) : Option (List Str) := match K.lookup a with
  | some ⟨.type c, none, .seq its _, _⟩ => if decide (c = "tuple") = true then strsOf its.toList else none
  | _ => none
theorem tupW_sq {K : PySem.W.Frag} {a : Addr} {xs : List Str} (h : tupW K a = some xs) (l : xs.length ≤ 100) : TupC K a (xs.map V.str) := by
  unfold tupW at h
  split at h
  · rename_i c its n sl hl
    by_cases hc : c = "tuple"
    · rw [if_pos (decide_eq_true hc)] at h
      subst hc
      refine ⟨_, its, n, hl, rfl, rfl, rfl, ?_, vals_strsOf h⟩
      have z := (vals_strsOf h).length
      rw [List.length_map] at z
      have : its.size = its.toList.length := by simp
      have sz := sizeLine_eq
      omega
    · rw [if_neg (by rw [decide_eq_true_eq]; exact hc)] at h
      cases h
  · cases h
section
variable {Z : Cz} {Er : ErW} {O : List Nat} {vs : Option (List Nat)} {te ta tb tc : TE} {tt tu : TT} {m m1 m2 m3 : Env → M Dat} {mb mc : Env → M Bool} {tl : TA} {ml : Env → M (List Dat)} {ts tr : TS} {ms mr : Env → M Flow}
def iRg1 (l : Env → M (List Dat)) (ρ : Env) : M (List Dat) := l ρ >>= fun ds => match ds with
  | [.int j] => M.need (decide (-(2 ^ 62) ≤ j ∧ j < 2 ^ 62)) >>= fun _ => pure (intsD 0 j.toNat)
  | _ => M.no
theorem ji_rg1 {X : XR} (hl : JA Z Er O tl ml) : JI Z Er O X (iRng1 tl) (iRg1 ml) := ji_rng1 hl
end
theorem m0_isascii {x : Str} {H : Hp} {Q : VK} (h : Q (.bl (Txt.isascii x)) H) : ∃ a, V.str x = .str a ∧ ([] : List V) = [] ∧ True ∧ Q (.bl (Txt.isascii a)) H := ⟨x, rfl, rfl, trivial, h⟩
theorem m0_isalpha {x : Str} {H : Hp} {Q : VK} (h : Q (.bl (Txt.isalpha x)) H) : ∃ a, V.str x = .str a ∧ ([] : List V) = [] ∧ True ∧ Q (.bl (Txt.isalpha a)) H := ⟨x, rfl, rfl, trivial, h⟩
theorem m0_islower {x : Str} {H : Hp} {Q : VK} (h : Q (.bl (Txt.islower x)) H) : ∃ a, V.str x = .str a ∧ ([] : List V) = [] ∧ True ∧ Q (.bl (Txt.islower a)) H := ⟨x, rfl, rfl, trivial, h⟩
end Zd
namespace Zg
open PySem PySem.Spec PyProof.Rows L2
section
variable {X : Cx} {pins : List (Addr × Obj)} {σ : L2.St} {H : Hp} {s : Shared}
/-- what is kept behind: the context with the error pinned -/
abbrev kept (X : Cx) (a : Addr) (oe : Obj) (pn : List (Addr × Obj)) : Cx := X.tr ((a, oe) :: pn) X.xe
end
end Zg
namespace Zd
open PySem PySem.Spec PyProof.Rows L2
mutual
def noLoc : Dat → Bool
  | .loc _ => false
  | .tup ds => noLocs ds
  | .lst ds => noLocs ds
  | .dic _ ds => noLocs ds
  | .obj _ _ ds => noLocs ds
  | _ => true
def noLocs : List Dat → Bool
  | [] => true
  | d :: ds => noLoc d && noLocs ds
end
def frzs (f : Dat → Option Dat) : List Dat → Option (List Dat)
  | [] => some []
  | d :: ds => match f d with
    | some e => match frzs f ds with
      | some es => some (e :: es)
      | none => none
    | none => none
def frz (S : List Dat) : Nat → Dat → Option Dat
  | 0, _ => none
  | n + 1, d => match d with
    | .loc k => match S[k]? with
      | some t => frz S n t
      | none => none
    | .tup ds => match frzs (frz S n) ds with
      | some es => some (.tup es)
      | none => none
    | .lst ds => match frzs (frz S n) ds with
      | some es => some (.lst es)
      | none => none
    | .dic ks ds => match frzs (frz S n) ds with
      | some es => some (.dic ks es)
      | none => none
    | .obj c fs ds => match frzs (frz S n) ds with
      | some es => some (.obj c fs es)
      | none => none
    | .non => some .non
    | .bl b => some (.bl b)
    | .int i => some (.int i)
    | .str x => some (.str x)
    | .ty x => some (.ty x)
    | .cls x => some (.cls x)
    | .scr x => some (.scr x)
section
variable {Z : Cz} {H : Hp} {p pc : Pl} {S : List Dat}
mutual
theorem IsD.still (hs : ∀ a, pc.has a → p.has a) : ∀ (d : Dat) {v : V}, noLoc d = true → IsD Z H p v d → IsD Z H pc v d
  | .non, _, _, h => isD_non.mpr (isD_non.mp h)
  | .bl b, _, _, h => isD_bl.mpr (isD_bl.mp h)
  | .int i, _, _, h => isD_int.mpr (isD_int.mp h)
  | .str x, _, _, h => isD_str.mpr (isD_str.mp h)
  | .ty n, _, _, h => isD_ty.mpr (isD_ty.mp h)
  | .cls c, _, _, h => by unfold IsD at h ⊢; exact h
  | .scr ns, _, _, h => by
    obtain ⟨a, e, h⟩ := isD_scr.mp h
    exact isD_scr.mpr ⟨a, e, h.imp (fun q => ⟨q.1, fun z => q.2 (hs a z)⟩) id⟩
  | .tup ds, _, n, h => by
    obtain ⟨a, vs, e, h1, h2⟩ := isD_tup.mp h
    exact isD_tup.mpr ⟨a, vs, e, h1.imp (fun q => ⟨q.1, fun z => q.2 (hs a z)⟩) id, IsDs.still hs ds (by rw [noLoc] at n; exact n) h2⟩
  | .lst ds, _, n, h => by
    obtain ⟨a, vs, e, h1, h2⟩ := isD_lst.mp h
    exact isD_lst.mpr ⟨a, vs, e, ⟨h1.1, fun z => h1.2 (hs a z)⟩, IsDs.still hs ds (by rw [noLoc] at n; exact n) h2⟩
  | .dic ks ds, _, n, h => by
    obtain ⟨a, vs, e, h1, hl, h2⟩ := isD_dic.mp h
    exact isD_dic.mpr ⟨a, vs, e, ⟨h1.1, fun z => h1.2 (hs a z)⟩, hl, IsDs.still hs ds (by rw [noLoc] at n; exact n) h2⟩
  | .obj c fs ds, _, n, h => by
    obtain ⟨a, vs, e, h1, hl, h2⟩ := isD_obj.mp h
    exact isD_obj.mpr ⟨a, vs, e, ⟨h1.1, fun z => h1.2 (hs a z)⟩, hl, IsDs.still hs ds (by rw [noLoc] at n; exact n) h2⟩
  | .loc k, _, n, h => by cases n
theorem IsDs.still (hs : ∀ a, pc.has a → p.has a) : ∀ (ds : List Dat) {vs : List V}, noLocs ds = true → IsDs Z H p vs ds → IsDs Z H pc vs ds
  | [], _, _, h => isDs_nil.mpr (isDs_nil.mp h)
  | d :: ds, _, n, h => by
    obtain ⟨v, r, e, h1, h2⟩ := isDs_cons.mp h
    rw [noLocs, Bool.and_eq_true] at n
    exact isDs_cons.mpr ⟨v, r, e, IsD.still hs d n.1 h1, IsDs.still hs ds n.2 h2⟩
end
theorem frzs_is {f : Dat → Option Dat} (hf : ∀ d e v, f d = some e → IsD Z H p v d → IsD Z H pc v e) : ∀ (ds : List Dat) {es : List Dat} {vs : List V}, frzs f ds = some es → IsDs Z H p vs ds → IsDs Z H pc vs es
  | [], _, _, e, h => by cases e; exact isDs_nil.mpr (isDs_nil.mp h)
  | d :: ds, _, _, e, h => by
    obtain ⟨v, r, ev, h1, h2⟩ := isDs_cons.mp h
    unfold frzs at e
    split at e
    · rename_i e1 q1
      split at e
      · rename_i es1 q2
        cases e
        exact isDs_cons.mpr ⟨v, r, ev, hf _ _ _ q1 h1, frzs_is hf ds q2 h2⟩
      · cases e
    · cases e
theorem frz_is (s : IsS Z H p S) (hs : ∀ a, pc.has a → p.has a ∧ a ∉ p.α) : ∀ (n : Nat) (d e : Dat) (v : V), frz S n d = some e → (IsD Z H p v d → IsD Z H pc v e) ∧ (∀ a, v = .ref a → ¬ pc.has a → IsTop Z H p a d → IsD Z H pc v e)
  | 0, _, _, _, h => by cases h
  | n + 1, d, e, v, h => by
    have ih := frz_is s hs n
    have its : ∀ (ds : List Dat) (es : List Dat) (vs : List V), frzs (frz S n) ds = some es → IsDs Z H p vs ds → IsDs Z H pc vs es := fun ds es vs h k => frzs_is (fun d e v h k => (ih d e v h).1 k) ds h k
    have nh : ∀ a, ¬ p.has a → ¬ pc.has a := fun a h z => h (hs a z).1
    cases d with
    | loc k =>
      unfold frz at h
      refine ⟨fun g => ?_, fun a _ _ g => g.elim⟩
      obtain ⟨a, ev, ha⟩ := isD_loc.mp g
      dsimp only at h
      split at h
      · rename_i t et
        exact (ih t e v h).2 a ev (fun z => (hs a z).2 (List.mem_of_getElem? ha)) (s.at_ k a t ha et)
      · cases h
    | tup ds =>
      unfold frz at h
      dsimp only at h
      split at h
      · rename_i es ee
        cases h
        refine ⟨fun g => ?_, fun a _ _ g => g.elim⟩
        obtain ⟨a, vs, ev, h1, h2⟩ := isD_tup.mp g
        exact isD_tup.mpr ⟨a, vs, ev, h1.imp (fun q => ⟨q.1, nh a q.2⟩) id, its _ _ _ ee h2⟩
      · cases h
    | lst ds =>
      unfold frz at h
      dsimp only at h
      split at h
      · rename_i es ee
        cases h
        refine ⟨fun g => ?_, fun a ev na g => ?_⟩
        · obtain ⟨a, vs, ev, h1, h2⟩ := isD_lst.mp g
          exact isD_lst.mpr ⟨a, vs, ev, ⟨h1.1, nh a h1.2⟩, its _ _ _ ee h2⟩
        · obtain ⟨vs, h1, h2⟩ := g
          exact isD_lst.mpr ⟨a, vs, ev, ⟨h1, na⟩, its _ _ _ ee h2⟩
      · cases h
    | dic ks ds =>
      unfold frz at h
      dsimp only at h
      split at h
      · rename_i es ee
        cases h
        refine ⟨fun g => ?_, fun a ev na g => ?_⟩
        · obtain ⟨a, vs, ev, h1, hl, h2⟩ := isD_dic.mp g
          exact isD_dic.mpr ⟨a, vs, ev, ⟨h1.1, nh a h1.2⟩, hl, its _ _ _ ee h2⟩
        · obtain ⟨vs, h1, hl, h2⟩ := g
          exact isD_dic.mpr ⟨a, vs, ev, ⟨h1, na⟩, hl, its _ _ _ ee h2⟩
      · cases h
    | obj c fs ds =>
      unfold frz at h
      dsimp only at h
      split at h
      · rename_i es ee
        cases h
        refine ⟨fun g => ?_, fun a ev na g => ?_⟩
        · obtain ⟨a, vs, ev, h1, hl, h2⟩ := isD_obj.mp g
          exact isD_obj.mpr ⟨a, vs, ev, ⟨h1.1, nh a h1.2⟩, hl, its _ _ _ ee h2⟩
        · obtain ⟨dx, vs, h1, hl, h2⟩ := g
          exact isD_obj.mpr ⟨a, vs, ev, ⟨⟨dx, h1⟩, na⟩, hl, its _ _ _ ee h2⟩
      · cases h
    | non => cases h; exact ⟨fun g => isD_non.mpr (isD_non.mp g), fun a _ _ g => g.elim⟩
    | bl b => cases h; exact ⟨fun g => isD_bl.mpr (isD_bl.mp g), fun a _ _ g => g.elim⟩
    | int i => cases h; exact ⟨fun g => isD_int.mpr (isD_int.mp g), fun a _ _ g => g.elim⟩
    | str x => cases h; exact ⟨fun g => isD_str.mpr (isD_str.mp g), fun a _ _ g => g.elim⟩
    | ty x => cases h; exact ⟨fun g => isD_ty.mpr (isD_ty.mp g), fun a _ _ g => g.elim⟩
    | cls x => cases h; exact ⟨fun g => by unfold IsD at g ⊢; exact g, fun a _ _ g => g.elim⟩
    | scr x =>
      cases h
      refine ⟨fun g => ?_, fun a _ _ g => g.elim⟩
      obtain ⟨a, e, h⟩ := isD_scr.mp g
      exact isD_scr.mpr ⟨a, e, h.imp (fun q => ⟨q.1, nh a q.2⟩) id⟩
end
/-- a call in an empty store -/
def callF (F : List Dat → M Dat) (ds : List Dat) : M Dat := fun S => match noLocs ds with
  | true => match F ds [] with
    | .ok d S' => match frz S' 40 d with
      | some e => .ok e S
      | none => .bad
    | .er c fs S' => match frzs (frz S' 40) fs with
      | some es => .er c es S
      | none => .bad
    | .bad => .bad
  | false => .bad
/-- a def that is called in some way -/
def Via (Z : Cz) (n : Nat) (F G : List Dat → M Dat) : Prop := ∀ (Er : ErW) (H : Hp) (p : Pl) (S : List Dat) (vs : List V) (ds : List Dat) (Q : VK) (E : XK), vs.length = n → IsDs Z H p vs ds → IsS Z H p S →
  Post Z Er ExtE (calm (G ds) S) H p (fun d _ H' p' => ∀ v, IsD Z H' p' v d → Q v H') → spD Z n F vs H Q E
section
variable {Z : Cz} {Er : ErW} {O : List Nat} {te ta tb : TE} {ts : TS} {tl : TA} {m m1 m2 : Env → M Dat} {ml : Env → M (List Dat)} {ms : Env → M Flow}
theorem via_id {n : Nat} {F : List Dat → M Dat} : Via Z n F F := fun _ _ _ _ _ _ _ _ hn hd hS q => call_sp hn hd hS q
abbrev allP (p : Pl) : Pl := ⟨[], [], p.γ ++ p.ω ++ p.α⟩
theorem allP_has {p : Pl} {a : Addr} : (allP p).has a ↔ p.has a := by
  unfold Pl.has
  constructor
  · rintro (h | h | h)
    · cases h
    · cases h
    · rcases List.mem_append.mp h with h | h
      · rcases List.mem_append.mp h with h | h
        · exact .inr (.inr h)
        · exact .inr (.inl h)
      · exact .inl h
  · rintro (h | h | h)
    · exact .inr (.inr (List.mem_append_right _ h))
    · exact .inr (.inr (List.mem_append_left _ (List.mem_append_right _ h)))
    · exact .inr (.inr (List.mem_append_left _ (List.mem_append_left _ h)))
theorem allP_s {H : Hp} {p : Pl} {S : List Dat} (s : IsS Z H p S) : IsS Z H (allP p) [] :=
  ⟨rfl, List.nodup_nil, nofun, nofun, fun a h => s.tracked (allP_has.mp (.inr h)), fun n a d h _ => by simp at h⟩
/-- behind a call in an empty store all stands as it stood -/
theorem allP_back {H H' : Hp} {p p' : Pl} {S S' : List Dat} (s : IsS Z H p S) (e : ExtE H (allP p) H' p') (s' : IsS Z H' p' S') : Same H H' ∧ ∀ a, p.has a → p'.has a ∧ a ∉ p'.α := by
  refine ⟨fun b u h => e.k b u h List.not_mem_nil, fun a h => ?_⟩
  have g : a ∈ p'.γ := by
    rw [e.γ]
    rcases allP_has.mpr h with h | h | h
    · cases h
    · cases h
    · exact h
  exact ⟨.inr (.inr g), s'.dg a g⟩
theorem via_F {n : Nat} {F : List Dat → M Dat} : Via Z n F (callF F) := fun Er H p S vs ds Q E hn hd hS q => by
  unfold calm callF at q
  cases nl : noLocs ds with
  | false => rw [nl] at q; exact q.elim
  | true =>
    rw [nl] at q
    refine ⟨hn, allP p, ds, [], rfl, IsDs.still (fun a h => allP_has.mp h) ds nl hd, allP_s hS, ?_⟩
    cases eF : F ds [] with
    | bad => rw [eF] at q; exact q.elim
    | er c fs S' =>
      rw [eF] at q
      dsimp only at q
      split at q
      · rename_i z; split at z <;> cases z
      · exact q.elim
    | ok d S' =>
      rw [eF] at q
      dsimp only at q
      cases ez : frz S' 40 d with
      | none => rw [ez] at q; exact q.elim
      | some e =>
        rw [ez] at q
        intro H' p' ee s v hv
        obtain ⟨sm, hs⟩ := allP_back hS ee s
        exact q H' p (ExtE.same sm) (hS.ext sm) v ((frz_is s hs 40 d e v ez).1 hv)
theorem j_callV {F G : List Dat → M Dat} {n : Nat} {E : XK} (V : Via Z n F G) (hl : JA Z Er O tl ml) (hn : ∀ ρ S ds S', ml ρ S = .ok ds S' → ds.length = n) : JD Z Er O (tCall (spD Z n F) [] E tl) (xCall G ml) := fun σ H p ρ S Q hE hS q => by
  refine hl σ H p ρ S _ hE hS ?_
  have q2 := q.bnd xE
  unfold Post at q2 ⊢
  cases z : ml ρ S with
  | ok ds S1 =>
    rw [z] at q2
    intro H1 p1 e1 s1 vs hv
    have hlen := hn ρ S ds S1 z
    show spD Z n F (vs ++ []) H1 Q E
    rw [List.append_nil]
    exact V Er H1 p1 S1 vs ds Q E (hv.len.trans hlen) hv s1 (q2 H1 p1 e1 s1)
  | er c fs S1 => rw [z] at q2; exact q2
  | bad => rw [z] at q2; exact q2
def insD (S : List Dat) : Dat → Option (String × List Str)
  | .obj c fs _ => some (c, fs)
  | .loc n => match S[n]? with
    | some (.obj c fs _) => some (c, fs)
    | _ => none
  | _ => none
theorem ins_is {H : Hp} {p : Pl} {S : List Dat} {v : V} {d : Dat} {c : String} {fs : List Str} (s : IsS Z H p S) (hv : IsD Z H p v d) (e : insD S d = some (c, fs)) : ∃ a dx vs, v = .ref a ∧ H a = some (.ins (Z.κ c) dx (fs.zip vs)) := by
  unfold insD at e
  split at e
  · cases e
    obtain ⟨a, vs, rfl, ⟨⟨dx, h1⟩, _⟩, _, _⟩ := isD_obj.mp hv
    exact ⟨a, dx, vs, rfl, h1⟩
  · split at e
    · rename_i et
      cases e
      obtain ⟨a, rfl, ha⟩ := isD_loc.mp hv
      obtain ⟨dx, vs, h1, _, _⟩ := s.at_ _ a _ ha et
      exact ⟨a, dx, vs, rfl, h1⟩
    · cases e
  · cases e
/-- C(..) in some way -/
def MkVia (Z : Cz) (c : String) (n : Nat) (F G : List Dat → M Dat) : Prop := ∀ (Er : ErW) (H : Hp) (p : Pl) (S : List Dat) (vs : List V) (ds : List Dat) (Q : VK) (E : XK), vs.length = n → IsDs Z H p vs ds → IsS Z H p S →
  Post Z Er ExtE (calm (G ds) S) H p (fun d _ H' p' => ∀ v, IsD Z H' p' v d → Q v H') → ∀ x dx, H x = none → H dx = none → dx ≠ x → spD Z (n + 1) F (.ref x :: vs) (L2.upd (L2.upd H dx (.own x)) x (.ins (Z.κ c) dx [])) (fun v H2 => v = .non ∧ Q (.ref x) H2) E
theorem mk_id {c : String} {n : Nat} {F : List Dat → M Dat} : MkVia Z c n F (mkNew c F) := fun Er H p S vs ds Q E hn hd hS q x dx nx nd ne => by
  obtain ⟨e2, s2⟩ := push_loc hS nx nd ne c rfl
  have q3 := q.calm Er
  have q4 : Post Z Er ExtE ((calm (F (.loc S.length :: ds)) >>= fun r => M.need (isNon r) >>= fun _ => pure (Dat.loc S.length)) (S ++ [.obj c [] []])) H p _ := q3
  have q5 := (q4.up xE e2).bnd xE
  have hx : IsD Z (L2.upd (L2.upd H dx (.own x)) x (.ins (Z.κ c) dx [])) ⟨p.α ++ [x], p.ω, p.γ⟩ (.ref x) (.loc S.length) := (isD_loc (Z := Z)).mpr ⟨x, rfl, by rw [← hS.len]; simp⟩
  refine call_sp (S := S ++ [.obj c [] []]) (ds := .loc S.length :: ds) (by rw [List.length_cons, hn]) (isDs_cons.mpr ⟨.ref x, vs, rfl, hx, hd.ext e2.s⟩) s2 (q5.mono fun d S3 H3 p3 e3 s3 q6 v hv3 => ?_)
  obtain ⟨cn, q7⟩ := q6.need
  rw [isNon_is cn] at hv3
  exact ⟨isD_non.mp hv3, q7.pure xE s3 (.ref x) (hx.ext e3.s)⟩
theorem mk_F {c : String} {n : Nat} {F : List Dat → M Dat} : MkVia Z c n F (callF (mkNew c F)) := fun Er H p S vs ds Q E hn hd hS q x dx nx nd ne => by
  unfold calm callF at q
  cases nl : noLocs ds with
  | false => rw [nl] at q; exact q.elim
  | true =>
    rw [nl] at q
    refine mk_id (fun _ _ _ _ _ _ => False) H (allP p) [] vs ds Q E hn (IsDs.still (fun a h => allP_has.mp h) ds nl hd) (allP_s hS) ?_ x dx nx nd ne
    unfold calm
    cases eF : mkNew c F ds [] with
    | bad => rw [eF] at q; exact q.elim
    | er c fs S' =>
      rw [eF] at q
      dsimp only at q
      split at q
      · rename_i z; split at z <;> cases z
      · exact q.elim
    | ok d S' =>
      rw [eF] at q
      dsimp only at q
      cases ez : frz S' 40 d with
      | none => rw [ez] at q; exact q.elim
      | some e =>
        rw [ez] at q
        intro H' p' ee s v hv
        obtain ⟨sm, hs⟩ := allP_back hS ee s
        exact q H' p (ExtE.same sm) (hS.ext sm) v ((frz_is s hs 40 d e v ez).1 hv)
theorem j_makeV {c : String} {F G : List Dat → M Dat} {n : Nat} {E : XK} (V : MkVia Z c n F G) (hl : JA Z Er O tl ml) (hn : ∀ ρ S ds S', ml ρ S = .ok ds S' → ds.length = n) : JD Z Er O (tMake (Z.κ c) (spD Z (n + 1) F) [] E tl) (xCall G ml) := fun σ H p ρ S Q hE hS q => by
  refine hl σ H p ρ S _ hE hS ?_
  have q2 := q.bnd xE
  unfold Post at q2 ⊢
  cases z : ml ρ S with
  | ok ds S1 =>
    rw [z] at q2
    intro H1 p1 e1 s1 vs hv x dx nx nd ne
    have hlen := hn ρ S ds S1 z
    rw [List.append_nil]
    exact V Er H1 p1 S1 vs ds Q E (hv.len.trans hlen) hv s1 (q2 H1 p1 e1 s1) x dx nx nd ne
  | er c fs S1 => rw [z] at q2; exact q2
  | bad => rw [z] at q2; exact q2
/-- x op y, both instances of the class -/
def dOwn2 (c : String) (G : List Dat → M Dat) (d e : Dat) : M Dat := fun S => match insD S d, insD S e with
  | some (c1, _), some (c2, _) => match decide (c1 = c) && decide (c2 = c) with
    | true => calm (G [d, e]) S
    | false => .bad
  | _, _ => .bad
theorem r_own2 {c : String} {F G : List Dat → M Dat} {E : XK} (V : Via Z 2 F G) : JRD Z (rOwnI (Z.κ c) (spD Z 2 F) E) (dOwn2 c G) := fun x y d e Er H p S Q hx hy s q => by
  unfold dOwn2 at q
  cases e1 : insD S d with
  | none => simp only [e1] at q; exact q.elim
  | some o1 =>
    cases e2 : insD S e with
    | none => simp only [e1, e2] at q; exact q.elim
    | some o2 =>
      obtain ⟨c1, f1⟩ := o1
      obtain ⟨c2, f2⟩ := o2
      simp only [e1, e2] at q
      cases eb : decide (c1 = c) && decide (c2 = c) with
      | false => rw [eb] at q; exact q.elim
      | true =>
        rw [eb] at q
        rw [Bool.and_eq_true, decide_eq_true_eq, decide_eq_true_eq] at eb
        obtain ⟨k1, k2⟩ := eb
        subst k1 k2
        obtain ⟨a, dx, vs, rfl, ha⟩ := ins_is s hx e1
        obtain ⟨b, dy, ws, rfl, hb⟩ := ins_is s hy e2
        exact ⟨a, dx, _, b, dy, _, rfl, rfl, ha, hb, V Er H p S _ [d, e] Q E rfl (isDs_cons.mpr ⟨_, _, rfl, hx, .one hy⟩) s q⟩
/-- isinstance(x, C), x an instance of C -/
def dIsiI (c : String) (ds : List Dat) : M Dat := fun S => match ds with
  | [d, .cls c'] => match insD S d with
    | some (c1, _) => match decide (c' = c) && decide (c1 = c) with
      | true => .ok (.bl true) S
      | false => .bad
    | none => .bad
  | _ => .bad
theorem c_isiI {c : String} (T : InsT Z c) : JC Z (IsDs Z) (IsD Z) (rIsi Z.K) (dIsiI c) := fun x d Er H p S Q hx s q => by
  unfold dIsiI at q
  split at q
  · rename_i d c'
    cases ei : insD S d with
    | none => simp only [ei] at q; exact q.elim
    | some o =>
      obtain ⟨c1, fs⟩ := o
      simp only [ei] at q
      cases eb : decide (c' = c) && decide (c1 = c) with
      | false => rw [eb] at q; exact q.elim
      | true =>
        rw [eb] at q
        rw [Bool.and_eq_true, decide_eq_true_eq, decide_eq_true_eq] at eb
        obtain ⟨ec, e1⟩ := eb
        subst e1
        obtain ⟨v, w, rfl, h1, h2⟩ := isDs_two hx
        rw [ec] at h2
        obtain ⟨a, dx, vs, rfl, ha⟩ := ins_is s h1 ei
        have hw : w = .ref (Z.κ c1) := by unfold IsD at h2; exact h2
        subst hw
        exact ⟨.ref a, .ref (Z.κ c1), _, _, true, rfl, .own _, .base (.ins ha T.cl T.ha T.hn T.htk T.hm), T.me, q H p xE.refl s _ (isD_bl.mpr rfl)⟩
  · exact q.elim
/-- a field, of a place or not -/
def dFldI (c : String) (f : Str) (d : Dat) : M Dat := fun S => match d with
  | .obj c' fs ds => match decide (c' = c) with
    | true => match lkD f fs ds with
      | some x => .ok x S
      | none => .bad
    | false => .bad
  | .loc n => match S[n]? with
    | some (.obj c' fs ds) => match decide (c' = c) with
      | true => match lkD f fs ds with
        | some x => .ok x S
        | none => .bad
      | false => .bad
    | _ => .bad
  | _ => .bad
theorem j_fldI {c : String} {f : Str} {fs : List Str} (T : ClsT Z c fs) (hf : f ∈ fs) (h : JD Z Er O ta m) : JD Z Er O (tFld Z.K ta f) (xUn (dFldI c f) m) := fun σ H p ρ S Q hE hS q =>
  h σ H p ρ S _ hE hS ((q.bnd xE).mono fun d S1 H1 p1 e1 s1 q1 v hv => by
    have key : ∀ (a dx : Addr) (c' : String) (gs : List Str) (ds : List Dat) (vs : List V), v = .ref a → H1 a = some (.ins (Z.κ c') dx (gs.zip vs)) → IsDs Z H1 p1 vs ds →
        Post Z Er ExtE (match decide (c' = c) with | true => (match lkD f gs ds with | some x => .ok x S1 | none => .bad) | false => .bad) H1 p1 (fun a _ H' p' => ∀ b, IsD Z H' p' b a → Q b H') → ∃ a C dx fs w, v = .ref a ∧ H1 a = some (.ins C dx fs) ∧ Cls Z.K C ∧ NoAttr Z.K C f ∧ fs.lookup f = some w ∧ Q w H1 := fun a dx c' gs ds vs ev ha hds z => by
      cases eb : decide (c' = c) with
      | false => rw [eb] at z; exact z.elim
      | true =>
        rw [eb] at z
        dsimp only at z
        have ec := of_decide_eq_true eb
        rw [ec] at ha
        cases el : lkD f gs ds with
        | none => rw [el] at z; exact z.elim
        | some x =>
          rw [el] at z
          obtain ⟨w, g1, g2⟩ := lk_rel hds el
          exact ⟨a, _, dx, _, w, ev, ha, T.cl, T.no f hf, g1, z H1 p1 xE.refl s1 w g2⟩
    unfold dFldI at q1
    cases d with
    | obj c' gs ds =>
      obtain ⟨a, vs, ev, ⟨⟨dx, ha⟩, _⟩, _, hds⟩ := isD_obj.mp hv
      exact key a dx c' gs ds vs ev ha hds q1
    | loc n =>
      dsimp only at q1
      split at q1
      · rename_i c' gs ds et
        obtain ⟨a, ev, ha⟩ := isD_loc.mp hv
        obtain ⟨dx, vs, h1, _, hds⟩ := s1.at_ n a _ ha et
        exact key a dx c' gs ds vs ev h1 hds q1
      · exact q1.elim
    | _ => exact q1.elim)
end
end Zd
namespace Zd
open PySem PySem.Spec PyProof.Rows L2
def putKN (k : Key) (ks : List Key) : List Key := if (ks.any fun g => decide (g = k)) = true then ks else ks ++ [k]
def setKV (k : Key) (x : Dat) : List Key → List Dat → List Dat
  | g :: gs, d :: ds => (if g = k then x else d) :: setKV k x gs ds
  | _, _ => []
def putKV (k : Key) (x : Dat) (ks : List Key) (ds : List Dat) : List Dat := if (ks.any fun g => decide (g = k)) = true then setKV k x ks ds else ds ++ [x]
section
variable {Z : Cz} {Er : ErW} {O : List Nat} {te ta tb tc : TE} {ts : TS} {tl : TA} {tt : TT} {m m1 m2 m3 : Env → M Dat} {mb : Env → M Bool} {ml : Env → M (List Dat)} {ms : Env → M Flow}
theorem any_zip {k : Key} : ∀ {ks : List Key} {vs : List V}, ks.length = vs.length → ((ks.zip vs).any fun kv => decide (kv.1 = k)) = ks.any fun g => decide (g = k)
  | [], _, _ => rfl
  | g :: gs, v :: vs, h => by
    rw [List.zip_cons_cons, List.any_cons, List.any_cons, any_zip (Nat.succ.inj h)]
theorem setKV_rel {H : Hp} {p : Pl} {k : Key} {x : Dat} {y : V} (hx : IsD Z H p y x) : ∀ {ks : List Key} {ds : List Dat} {vs : List V}, ks.length = vs.length → IsDs Z H p vs ds → ∃ ws, ((ks.zip vs).map fun kv => if kv.1 = k then (kv.1, y) else kv) = ks.zip ws ∧ ks.length = ws.length ∧ IsDs Z H p ws (setKV k x ks ds)
  | [], ds, vs, hl, h => by
    have e : vs = [] := List.length_eq_zero_iff.mp hl.symm
    subst e
    exact ⟨[], rfl, rfl, by cases ds <;> exact isDs_nil.mpr rfl⟩
  | g :: gs, [], vs, hl, h => by rw [isDs_nil.mp h] at hl; cases hl
  | g :: gs, c :: ds, _, hl, h => by
    obtain ⟨v, r, rfl, h1, h2⟩ := isDs_cons.mp h
    obtain ⟨ws, e1, e2, e3⟩ := setKV_rel (k := k) hx (Nat.succ.inj hl) h2
    by_cases q : g = k
    · refine ⟨y :: ws, ?_, by rw [List.length_cons, List.length_cons, e2], ?_⟩
      · rw [List.zip_cons_cons, List.map_cons, e1, List.zip_cons_cons]
        dsimp only
        rw [if_pos q]
      · unfold setKV
        rw [if_pos q]
        exact isDs_cons.mpr ⟨y, ws, rfl, hx, e3⟩
    · refine ⟨v :: ws, ?_, by rw [List.length_cons, List.length_cons, e2], ?_⟩
      · rw [List.zip_cons_cons, List.map_cons, e1, List.zip_cons_cons]
        dsimp only
        rw [if_neg q]
      · unfold setKV
        rw [if_neg q]
        exact isDs_cons.mpr ⟨v, ws, rfl, h1, e3⟩
theorem putK_rel {H : Hp} {p : Pl} {k : Key} {x : Dat} {y : V} (hx : IsD Z H p y x) {ks : List Key} {ds : List Dat} {vs : List V} (hl : ks.length = vs.length) (h : IsDs Z H p vs ds) : ∃ ws, putK (ks.zip vs) k y = (putKN k ks).zip ws ∧ (putKN k ks).length = ws.length ∧ IsDs Z H p ws (putKV k x ks ds) := by
  unfold putK putKN putKV
  rw [any_zip hl]
  by_cases c : (ks.any fun g => decide (g = k)) = true
  · rw [if_pos c, if_pos c, if_pos c]
    exact setKV_rel hx hl h
  · rw [if_neg c, if_neg c, if_neg c]
    refine ⟨vs ++ [y], ?_, by rw [List.length_append, List.length_append, hl]; rfl, h.append (.one hx)⟩
    rw [List.zip_append hl]
    rfl
/-- a new object becomes a place -/
def xNewLo (a : Env → M Dat) (ρ : Env) : M Dat := a ρ >>= fun d => fun S => .ok (.loc S.length) (S ++ [d])
theorem j_newLo (h : JF Z Er O ta m) : JD Z Er O ta (xNewLo m) := fun σ H p ρ S Q hE hS q =>
  h σ H p ρ S _ hE hS (q.bndK.mono fun d S1 H1 p1 e1 s1 q1 a na na1 nh hs ht => by
    have q2 : ∀ H' p', ExtE H p H' p' → IsS Z H' p' (S1 ++ [d]) → ∀ b, IsD Z H' p' b (.loc S1.length) → Q b H' := q1
    have l2 : ∀ b, (⟨p1.α ++ [a], p1.ω, p1.γ⟩ : Pl).has b → (⟨p1.α, p1.ω ++ [a], p1.γ⟩ : Pl).has b := fun b h => by
      rcases h with h | h | h
      · rcases List.mem_append.mp h with h | h
        · exact .inl h
        · exact .inr (.inl (List.mem_append_right _ h))
      · exact .inr (.inl (List.mem_append_left _ h))
      · exact .inr (.inr h)
    have na1 : a ∉ p1.α := fun z => nh (.inl z)
    have hα : (p1.α ++ [a])[S1.length]? = some a := by rw [← hs.len]; simp
    refine q2 H1 ⟨p1.α ++ [a], p1.ω, p1.γ⟩ ⟨?_, e1.ω, e1.γ, fun b u z n => e1.k b u z n, e1.t⟩ ⟨?_, ?_, fun b h => ⟨fun z => ?_, (hs.dj b (List.mem_append_left _ h)).2⟩, fun b h z => ?_, fun b h => hs.wt b (h.imp (List.mem_append_left _) id), fun n b x h1 h2 => ?_⟩ (.ref a) ?_
    · obtain ⟨β, g1, g2⟩ := e1.α
      refine ⟨β ++ [a], by rw [g1, List.append_assoc], fun b h => ?_⟩
      rcases List.mem_append.mp h with h | h
      · exact g2 b h
      · rw [List.mem_singleton.mp h]; exact na
    · rw [List.length_append, List.length_append, hs.len]; rfl
    · exact List.nodup_append.mpr ⟨hs.nd, by simp, fun b h c h2 e => na1 (by rw [← List.mem_singleton.mp h2, ← e]; exact h)⟩
    · rcases List.mem_append.mp z with z | z
      · exact (hs.dj b (List.mem_append_left _ h)).1 z
      · exact nh (.inr (.inl (by rw [← List.mem_singleton.mp z]; exact h)))
    · rcases List.mem_append.mp z with z | z
      · exact hs.dg b h z
      · exact nh (.inr (.inr (by rw [← List.mem_singleton.mp z]; exact h)))
    · have mv : ∀ (n : Nat) (x : Addr), p1.α[n]? = some x → (p1.α ++ [a])[n]? = some x := fun n x h => by
        rw [List.getElem?_append_left (List.getElem?_eq_some_iff.mp h).1]; exact h
      by_cases c : n < S1.length
      · rw [List.getElem?_append_left c] at h2
        rw [List.getElem?_append_left (by rw [hs.len]; exact c)] at h1
        exact IsTop.mv (p := ⟨p1.α, p1.ω ++ [a], p1.γ⟩) (p' := ⟨p1.α ++ [a], p1.ω, p1.γ⟩) mv l2 (hs.at_ n b x h1 h2)
      · have lt := (List.getElem?_eq_some_iff.mp h2).1
        rw [List.length_append, List.length_singleton] at lt
        have e : n = S1.length := by omega
        subst e
        rw [hα] at h1
        cases h1
        rw [List.getElem?_append_right (Nat.le_refl _), Nat.sub_self] at h2
        cases h2
        exact IsTop.mv (p := ⟨p1.α, p1.ω ++ [a], p1.γ⟩) (p' := ⟨p1.α ++ [a], p1.ω, p1.γ⟩) mv l2 ht
    · exact (isD_loc (Z := Z) (H := H1) (p := ⟨p1.α ++ [a], p1.ω, p1.γ⟩)).mpr ⟨a, rfl, hα⟩)
/-- tuple(x), len(x): x a list that is a place -/
def dTupleLo (ds : List Dat) : M Dat := fun S => match ds with
  | [.loc n] => match S[n]? with
    | some (.lst xs) => .ok (.tup xs) S
    | _ => .bad
  | _ => .bad
theorem c_tupleLo : JC Z (IsDs Z) (IsD Z) (fun xs H Q => ∃ p ys, xs = [.ref p] ∧ ((SqL Z.K H p ys ∧ NewT ys H Q) ∨ (SqT Z.K H p ys ∧ Q (.ref p) H))) dTupleLo := fun x d Er H p S Q hx s q => by
  unfold dTupleLo at q
  split at q
  · split at q
    · rename_i n _ xs et
      obtain ⟨v, rfl, hv⟩ := isDs_one hx
      obtain ⟨a, rfl, ha⟩ := isD_loc.mp hv
      obtain ⟨vs, h1, h2⟩ := s.at_ n a _ ha et
      refine ⟨a, vs, rfl, .inl ⟨SqL.of h1, fun t o nt nd => ?_⟩⟩
      exact (show Post Z Er ExtE ((pure (Dat.tup xs) : M Dat) S) H p _ from q).at_new s nt _ (new_tup s nt nd h2)
    · exact q.elim
  · exact q.elim
/-- x.append(e), x a place -/
def isLst (S : List Dat) (n : Nat) : Bool := match S[n]? with
  | some (.lst _) => true
  | _ => false
def needL (n : Nat) : M Unit := fun S => match isLst S n with
  | true => .ok () S
  | false => .bad
def appLo (n : Nat) (d : Dat) (ρ : Env) : M Flow := fun S => match S[n]? with
  | some (.lst xs) => match decide (xs.length < 100000) with
    | true => .ok (.nx ρ) (S.set n (.lst (xs ++ [d])))
    | false => .bad
  | _ => .bad
def sAppLo (o : Env → M Dat) (l : Env → M (List Dat)) (ρ : Env) : M Flow := o ρ >>= fun y => M.opt (dLoc y) >>= fun n => needL n >>= fun _ => l ρ >>= fun ds => M.opt (one ds) >>= fun d => appLo n d ρ
theorem js_appLo (ho : JD Z Er O ta m) (hl : JA Z Er O tl ml) : JS Z Er O (tDrop (tBM Z.K "list" rAppend ta tl)) (sAppLo m ml) := fun σ H p ρ S D hE hS q =>
  ho σ H p ρ S _ hE hS (q.bndE.mono fun o S1 H1 p1 e1 s1 q1 v hv => by
    obtain ⟨n, en, q1⟩ := Post.opt q1
    rw [dLoc_is en] at hv
    obtain ⟨a, rfl, ha⟩ := isD_loc.mp hv
    have hE1 := hE.ext e1 hS
    have nl : ∀ b, isLst S1 n = b → needL n S1 = (match b with | true => .ok () S1 | false => .bad) := fun b e => by unfold needL; rw [e]
    rw [m_bind] at q1
    cases ei : isLst S1 n with
    | false => rw [nl _ ei] at q1; exact q1.elim
    | true =>
      rw [nl _ ei] at q1
      have q2 : Post Z Er Ext ((ml ρ >>= fun ds => M.opt (one ds) >>= fun d => appLo n d ρ) S1) H1 p1 (fun f _ H' p' => FlowOk Z O D f H' p') := q1
      have ty : ∃ vs, H1 a = some (.lst vs) := by
        unfold isLst at ei
        split at ei
        · rename_i xs et
          obtain ⟨vs, h1, _⟩ := s1.at_ n a _ ha et
          exact ⟨vs, h1⟩
        · cases ei
      obtain ⟨vs0, h0⟩ := ty
      refine ⟨.inl ⟨rfl, _, SqL.of h0⟩, hl σ H1 p1 ρ S1 _ hE1 s1 (q2.bndE.mono fun ds S2 H2 p2 e2 s2 q3 ws hws => ?_)⟩
      obtain ⟨d, e1d, q3⟩ := Post.opt q3
      rw [one_is e1d] at hws
      obtain ⟨w, rfl, hw⟩ := isDs_one hws
      have hα : p2.α[n]? = some a := by
        obtain ⟨β, g1, _⟩ := e2.α
        rw [g1, List.getElem?_append_left (List.getElem?_eq_some_iff.mp ha).1]
        exact ha
      unfold appLo at q3
      split at q3
      · rename_i xs et
        cases eb : decide (xs.length < 100000) with
        | false => rw [eb] at q3; exact q3.elim
        | true =>
          rw [eb] at q3
          have c := of_decide_eq_true eb
          obtain ⟨vs, g1, g2⟩ := s2.at_ n a _ hα et
          have sz := sizeLine_eq
          refine ⟨a, vs, w, rfl, rfl, g1, by rw [g2.len]; omega, ?_⟩
          obtain ⟨e3, s3⟩ := loc_put (o := .lst (vs ++ [w])) (d := .lst (xs ++ [d])) s2 hα ⟨vs ++ [w], upd_same, (g2.append (.one hw)).ext (loc_ext (List.mem_of_getElem? hα))⟩
          exact q3 _ _ e3.s s3 σ ((hE1.ext e2 s1).ext e3 s2)
      · exact q3.elim)
/-- d[k] = e, d a place -/
def putLo (n : Nat) (k : Key) (x : Dat) (ρ : Env) : M Flow := fun S => match S[n]? with
  | some (.dic ks ds) => match decide (ks.length < 100000) with
    | true => .ok (.nx ρ) (S.set n (.dic (putKN k ks) (putKV k x ks ds)))
    | false => .bad
  | _ => .bad
def sDPutLo (o b a : Env → M Dat) (ρ : Env) : M Flow := a ρ >>= fun x => o ρ >>= fun y => M.opt (dLoc y) >>= fun n => b ρ >>= fun z => M.opt (keyD z) >>= fun k => putLo n k x ρ
theorem js_dputLo (ho : JD Z Er O ta m1) (hb : JD Z Er O tb m2) (ha : JD Z Er O tc m3) : JS Z Er O (sDPut ta tb tc) (sDPutLo m1 m2 m3) := fun σ H p ρ S D hE hS q =>
  ha σ H p ρ S _ hE hS (q.bndE.mono fun x S1 H1 p1 e1 s1 q1 v hv => ho σ H1 p1 ρ S1 _ (hE.ext e1 hS) s1 (q1.bndE.mono fun o S2 H2 p2 e2 s2 q2 w hw => by
    obtain ⟨n, en, q2⟩ := Post.opt q2
    rw [dLoc_is en] at hw
    refine hb σ H2 p2 ρ S2 _ ((hE.ext e1 hS).ext e2 s1) s2 (q2.bndE.mono fun z S3 H3 p3 e3 s3 q3 u hu => ?_)
    obtain ⟨k, ek, q3⟩ := Post.opt q3
    obtain ⟨a, rfl, hα⟩ := isD_loc.mp (hw.ext e3.s)
    unfold putLo at q3
    split at q3
    · rename_i ks ds et
      cases eb : decide (ks.length < 100000) with
      | false => rw [eb] at q3; exact q3.elim
      | true =>
        rw [eb] at q3
        have c := of_decide_eq_true eb
        obtain ⟨vs, g1, gl, g2⟩ := s3.at_ n a _ hα et
        have sz := sizeLine_eq
        obtain ⟨ws, k1, k2, k3⟩ := putK_rel (k := k) ((hv.ext e2.s).ext e3.s) gl g2
        refine ⟨a, _, rfl, .inl ⟨_, k, g1, keyD_is hu ek, by rw [List.length_zip, ← gl, Nat.min_self]; omega, rfl⟩, ?_⟩
        rw [k1]
        obtain ⟨e4, s4⟩ := loc_put (o := .dK ((putKN k ks).zip ws)) (d := .dic (putKN k ks) (putKV k x ks ds)) s3 hα ⟨ws, upd_same, k2, k3.ext (loc_ext (List.mem_of_getElem? hα))⟩
        exact q3 _ _ e4.s s4 σ ((((hE.ext e1 hS).ext e2 s1).ext e3 s2).ext e4 s3)
    · exact q3.elim))
end
end Zd
namespace Zd
open PySem PySem.Spec PyProof.Rows L2
section
variable {X : Cx} {CX : CXT} {pins : List (Addr × Obj)} {σ : L2.St} {H : Hp} {s : Shared} {C g f : Addr} {fd : FuncData} {ps ks : List Str} {k : Nat} {sp : Sp} {E : XK} {x : Str} {p pos : Pos} {e : Expr} {es : List Expr} {kws : List Keyword} {t tk : TA}
theorem run_in {A : Around} {Q : VK} {us : List Value} {ws : List V} (F : FnOk X.prog X.w X.K X.mg X.base CX k g fd ps sp) (hr : Room k A) (hb : Binds X.K fd ps []) (e0 : Env0 X.prog X.w X.K X.mg X.base A X.stack s H)
    (hx : Passes CX X E) (I : Inv X pins σ H s) (r : Vals ws us) (h : sp ws H Q E) : wpAny (model X.prog X.w) A (call (.ref g) us) (EP X pins σ Q) X.xe s := by
  have hl : (us ++ []).length = ps.length := by rw [List.append_nil, ← r.length]; exact F.len _ _ _ _ h
  have b := hb s us I.kIn hl
  rw [List.append_nil] at b
  refine wpAny_call (codeAny_mono (F.run A X.stack s H ⟨us, []⟩ us ws Q E hr e0 b r h) fun r s' hq => ?_)
  match r, hq with
  | .error e, z => exact hx pins σ H s e s' I z
  | .ok (.ret _), z => exact I.after z
  | .ok .next, z => exact z.elim
  | .ok .brk, z => exact z.elim
  | .ok .cont, z => exact z.elim
theorem op_cmpI {op : CmpOp} (hop : ∀ a b, compareOp op a b = richCompare op a b) (hs : PySem.W.findIn X.K (.ref C) (cmpInfo op).2.1 = some (some (.ref g))) (hf : PySem.W.isFn X.K (.ref g) = true)
    (F : FnOk X.prog X.w X.K X.mg X.base CX k g fd ps sp) (hr : Room k X.A) (hb : Binds X.K fd ps []) (hx : Passes CX X E) : OpR X (compareOp op) (rOwnI C sp E) := by
  intro pins s σ H x y v u Q I rx ry h
  obtain ⟨a, dx, fs, b, dy, gs, rfl, rfl, ha, hb', q⟩ := h
  cases (show v = Value.ref a from rx)
  cases (show u = Value.ref b from ry)
  obtain ⟨mA, O, _⟩ := ins_get I.hok ha
  obtain ⟨od, J, _⟩ := O.look
  obtain ⟨mB, O', _⟩ := ins_get I.hok hb'
  obtain ⟨od', J', _⟩ := O'.look
  obtain ⟨m, hF⟩ := I.fr
  rw [hop]
  refine PySem.W.cmp_K (op := op) (tb := .ref C) hr.units0 hF I.ok.mod.kin J J'.type (by simp [PySem.W.notFirst]) hs hf ?_
  refine wpAny_mono (run_in (us := [.ref a, .ref b]) (ws := [.ref a, .ref b]) F hr hb I.env0 hx I (.cons rfl (.cons rfl .nil)) q) (fun w s' z => ?_) fun _ _ x => x
  obtain ⟨z', H', I', rz, qz⟩ := z
  exact SlX.cmpback rz ⟨z', H', I', rz, qz⟩
/-- the positional ones and the keywords' values in the parameters' order -/
def pick {α : Type} (n : Nat) (π : List Nat) (us ws : List α) : List α := if us.length = n ∧ n + ws.length = π.length then π.filterMap fun i => (us ++ ws)[i]? else []
end
end Zd
namespace Zd
open PySem PySem.Spec PyProof.Rows L2 Zg
def MeI (P : Program) (w : World) (K : PySem.W.Frag) (mg : Str → Option Value) (base : Heap) (Z : Cz) (k : Nat) (c : String) (m : Str) (ps : List Str) (sp : Sp) : Prop :=
  ∃ (f : Addr) (fd : FuncData), Meth K (Z.κ c) m f ∧ FnOk P w K mg base CX0 k f fd ps sp ∧ Binds K fd ps []
def MkI (P : Program) (w : World) (K : PySem.W.Frag) (mg : Str → Option Value) (base : Heap) (Z : Cz) (k : Nat) (c : String) (x : Str) (ps : List Str) (sp : Sp) : Prop :=
  ∃ (f : Addr) (fd : FuncData), Mk K (Z.κ c) f ∧ FnOk P w K mg base CX0 k f fd ps sp ∧ Binds K fd ps [] ∧ mg x = some (.ref (Z.κ c))
/-- a class: its fields, its name -/
structure ClsI (K : PySem.W.Frag) (mg : Str → Option Value) (Z : Cz) (c : String) (x : Str) (fs : List Str) : Prop where
  t : ClsT Z c fs
  i : InsT Z c
  g : mg x = some (.ref (Z.κ c))
structure TxD2 (mg : Str → Option Value) : Prop extends TxD mg where
  n_dict : mg "dict" = none
section
variable {Z : Cz} {Er : ErW} {O : List Nat}
theorem j_cls {c : String} : JD Z Er O (tC (.ref (Z.κ c))) (xC (.cls c)) := j_c fun _ _ => by unfold IsD; rfl
end
end Zd
namespace Zd
open PySem PySem.Spec PyProof.Rows L2 Zg
def leS (a b : Str) : Prop := ¬ b.cps.toList < a.cps.toList
theorem leS_trans {a b c : Str} (h : leS a b) (k : leS b c) : leS a c := by
  unfold leS at *
  have h : a.cps.toList ≤ b.cps.toList := h
  have k : b.cps.toList ≤ c.cps.toList := k
  exact List.le_trans h k
theorem leS_anti {a b : Str} (h : leS a b) (k : leS b a) : a = b := by
  unfold leS at *
  have h : a.cps.toList ≤ b.cps.toList := h
  have k : b.cps.toList ≤ a.cps.toList := k
  have e : a.cps.toList = b.cps.toList := List.le_antisymm h k
  cases a
  cases b
  simp at e
  rw [e]
def insS (x : Str) : List Str → List Str
  | [] => [x]
  | y :: r => if ltCps y.cps.toList x.cps.toList = true then y :: insS x r else x :: y :: r
def sortS : List Str → List Str
  | [] => []
  | x :: r => insS x (sortS r)
theorem insS_perm (x : Str) : ∀ l, (insS x l).Perm (x :: l)
  | [] => List.Perm.refl _
  | y :: r => by
    unfold insS
    split
    · exact ((insS_perm x r).cons y).trans (List.Perm.swap x y r)
    · exact List.Perm.refl _
theorem sortS_perm : ∀ l, (sortS l).Perm l
  | [] => List.Perm.refl _
  | x :: r => (insS_perm x (sortS r)).trans ((sortS_perm r).cons x)
theorem insS_sorted (x : Str) : ∀ l, l.Pairwise leS → (insS x l).Pairwise leS
  | [], _ => List.pairwise_singleton _ _
  | y :: r, h => by
    have hc := List.pairwise_cons.mp h
    unfold insS
    split
    · rename_i c
      rw [ltCps_eq, decide_eq_true_eq] at c
      refine List.pairwise_cons.mpr ⟨fun z m => ?_, insS_sorted x r hc.2⟩
      rcases List.mem_cons.mp ((insS_perm x r).mem_iff.mp m) with rfl | m
      · exact fun k => List.lt_asymm c k
      · exact hc.1 z m
    · rename_i c
      rw [ltCps_eq, decide_eq_true_eq] at c
      refine List.pairwise_cons.mpr ⟨fun z m => ?_, h⟩
      rcases List.mem_cons.mp m with rfl | m
      · exact c
      · exact leS_trans c (hc.1 z m)
theorem sortS_sorted : ∀ l, (sortS l).Pairwise leS
  | [] => List.Pairwise.nil
  | x :: r => insS_sorted x _ (sortS_sorted r)
theorem perm_eq : ∀ {l m : List Str}, l.Perm m → l.Pairwise leS → m.Pairwise leS → l = m
  | [], m, p, _, _ => (List.nil_perm.mp p).symm
  | a :: l, [], p, _, _ => absurd p.length_eq (by simp)
  | a :: l, b :: m, p, h, k => by
    have ha := List.pairwise_cons.mp h
    have hb := List.pairwise_cons.mp k
    have e : a = b := by
      have m1 : a ∈ b :: m := p.mem_iff.mp List.mem_cons_self
      have m2 : b ∈ a :: l := p.mem_iff.mpr List.mem_cons_self
      rcases List.mem_cons.mp m1 with e | m1
      · exact e
      · rcases List.mem_cons.mp m2 with e | m2
        · exact e.symm
        · exact leS_anti (ha.1 b m2) (hb.1 a m1)
    subst e
    rw [perm_eq (List.Perm.cons_inv p) ha.2 hb.2]
theorem rising_pw : ∀ (p : Str) (l : List Str), risingS p l = true → (p :: l).Pairwise leS
  | p, [], _ => List.pairwise_singleton _ _
  | p, x :: r, h => by
    have h : (!ltCps x.cps.toList p.cps.toList && risingS x r) = true := h
    rw [Bool.and_eq_true, Bool.not_eq_true'] at h
    have ih := rising_pw x r h.2
    have hc := List.pairwise_cons.mp ih
    have px : leS p x := by
      have := h.1
      rw [ltCps_eq, decide_eq_false_iff_not] at this
      exact this
    refine List.pairwise_cons.mpr ⟨fun z m => ?_, ih⟩
    rcases List.mem_cons.mp m with rfl | m
    · exact px
    · exact leS_trans px (hc.1 z m)
theorem sortedS_pw : ∀ {l : List Str}, sortedS l = true → l.Pairwise leS
  | [], _ => List.Pairwise.nil
  | x :: r, h => rising_pw x r h
theorem sortS_is {ys xs : List Str} (p : ys.Perm xs) (h : sortedS ys = true) : ys = sortS xs := perm_eq (p.trans (sortS_perm xs).symm) (sortedS_pw h) (sortS_sorted xs)
def strsL : List Dat → Option (List Str)
  | [] => some []
  | .str x :: r => (strsL r).map (x :: ·)
  | _ :: _ => none
theorem strsL_is : ∀ {ds : List Dat} {xs : List Str}, strsL ds = some xs → ds = xs.map .str
  | [], _, h => by cases h; rfl
  | .str x :: r, _, h => by
    unfold strsL at h
    cases e : strsL r with
    | none => rw [e] at h; cases h
    | some ys => rw [e] at h; cases h; rw [strsL_is e]; rfl
  | .non :: r, _, h => by cases h
  | .bl _ :: r, _, h => by cases h
  | .int _ :: r, _, h => by cases h
  | .tup _ :: r, _, h => by cases h
  | .lst _ :: r, _, h => by cases h
  | .dic _ _ :: r, _, h => by cases h
  | .obj _ _ _ :: r, _, h => by cases h
  | .loc _ :: r, _, h => by cases h
  | .ty _ :: r, _, h => by cases h
  | .cls _ :: r, _, h => by cases h
  | .scr _ :: r, _, h => by cases h
section
variable {Z : Cz} {Er : ErW} {O : List Nat} {te ta tb tc td : TE} {ts : TS} {tl tk : TA} {tt : TT} {m m1 m2 m3 m4 : Env → M Dat} {mb : Env → M Bool} {ml mk : Env → M (List Dat)} {ms : Env → M Flow}
theorem isDs_strs {H : Hp} {p : Pl} : ∀ {xs : List Str} {vs : List V}, IsDs Z H p vs (xs.map .str) → vs = xs.map V.str
  | [], _, h => isDs_nil.mp h
  | x :: r, _, h => by
    obtain ⟨v, ws, rfl, h1, h2⟩ := isDs_cons.mp h
    rw [isD_str.mp h1, isDs_strs h2]
    rfl
def dSorted (ds : List Dat) : M Dat := match ds with
  | [.lst xs] => M.opt (strsL xs) >>= fun zs => M.need (decide (zs.length < 64)) >>= fun _ => pure (.lst ((sortS zs).map .str))
  | _ => M.no
theorem c_sorted : JC Z (IsDs Z) (IsD Z) (rSortedS Z.K) dSorted := fun x d Er H p S Q hx s q => by
  unfold dSorted at q
  split at q
  · obtain ⟨zs, ez, q⟩ := q.opt
    obtain ⟨c, q⟩ := q.need
    obtain ⟨v, rfl, hv⟩ := isDs_one hx
    obtain ⟨a, vs, rfl, h1, h2⟩ := isD_lst.mp hv
    rw [strsL_is ez] at h2
    rw [isDs_strs h2] at h1
    refine ⟨a, zs, rfl, h1.sq, of_decide_eq_true c, fun ys l pm so nl => ?_⟩
    rw [sortS_is pm so]
    exact q.at_new s nl _ (new_lst s nl (strs_of (xs := sortS zs)))
  · exact (bad_no (S := S) q).elim
def dStrS (ds : List Dat) : M Dat := match ds with
  | [.str x] => pure (.str x)
  | _ => M.no
theorem c_strS : JC Z (IsDs Z) (IsD Z) (fun xs H Q => ∃ a, xs = [.str a] ∧ Q (.str a) H) dStrS := fun x d Er H p S Q hx s q => by
  unfold dStrS at q
  split at q
  · obtain ⟨v, rfl, hv⟩ := isDs_one hx
    exact ⟨_, by rw [isD_str.mp hv], q.pure xE s _ (isD_str.mpr rfl)⟩
  · exact (bad_no (S := S) q).elim
end
end Zd
namespace Zd
open PySem PySem.Spec PyProof.Rows L2 Zg
/-- a def of the hook without defaults, bare -/
theorem rawD {K : PySem.W.Frag} {x qual : Str} {st : Stmt} {kws : List (Str × V)} {f : Addr} (h : ∃ fd, FunD K x qual (defArgs st) (defBody st) (defScope st) [] kws f fd) :
    ∃ (oc : Value) (od : Option Addr) (kV doc pm : Value) (an : Option Addr) (cdv ct : Value) (osl : Array (Option Value)),
      K.lookup f = some ⟨oc, od, .func (PySem.W.fnOf x qual (defArgs st) (defBody st) (defScope st) .none kV doc pm an cdv ct), osl⟩ ∧ PySem.W.codeIn K cdv qual = true ∧ PySem.W.keepIn K (.ref f) = true := by
  obtain ⟨fd, F⟩ := h
  obtain ⟨oc, od, dV, kV, doc, pm, an, cdv, ct, osl, e, l, c, hd, _⟩ := F.ex
  rcases hd with ⟨_, e2⟩ | ⟨e2, _⟩
  · subst e2
    subst e
    exact ⟨oc, od, kV, doc, pm, an, cdv, ct, osl, l, c, F.kp⟩
  · exact absurd rfl e2
/-- a module's whole number -/
def numB (K : PySem.W.Frag) (x : Str) (i : Int) : Bool := match PySem.W.nsIn K mainGlobals x with
  | some (some (.int j _)) => decide (j = i)
  | _ => false
theorem numB_ok {K : PySem.W.Frag} {x : Str} {i : Int} (h : numB K x i = true) : ∃ t, PySem.W.nsIn K mainGlobals x = some (some (.int i t)) := by
  unfold numB at h
  split at h
  · rename_i j t e
    rw [← of_decide_eq_true h]
    exact ⟨t, e⟩
  · cases h
abbrev AlL : Type := He.AlT × Bool
def obsL (as : List Addr) (fn : List He.DefD) (ts : List He.Tab) (ex : PySem.W.Frag → Bool) (g : Addr → Option Obj) : AlL := (He.obsT [] fn ts (He.frG g as), ex (He.frG g as))
def hookL (as : List Addr) (fn : List He.DefD) (ts : List He.Tab) (ex : PySem.W.Frag → Bool) : PySem.W.Hook where
  α := AlL
  obs := fun s => obsL as fn ts ex s.heap.get?
  val := fun w => (He.valT fn ts w, true)
  says := fun w h => ∃ K : PySem.W.Frag, K.In h ∧ He.SaysT [] fn ts w K ∧ ex K = true
  of := fun _ _ e => ⟨_, He.frG_in, congrArg (fun z : AlL => z.1) e, congrArg (fun z : AlL => z.2) e⟩
  keeps := fun _ _ _ ⟨K, hK, c⟩ k => ⟨K, PySem.W.Frag.In.keeps hK k, c⟩
theorem obsL_eq {as : List Addr} {fn : List He.DefD} {ts : List He.Tab} {ex : PySem.W.Frag → Bool} {g : Addr → Option Obj} {s : Shared} (h : ∀ a, g a = s.heap.get? a) : obsL as fn ts ex g = (hookL as fn ts ex).obs s := by
  have e : g = s.heap.get? := funext h
  rw [e] <;> rfl
/-- a law's end over a head by facts, the law's own run calm -/
theorem walkGE {l : PySem.W.OpenLaw} {n k : Nat} {q : Program} {loose : List Str} {XP : (Str → Option Value) → Heap → Prop} {YP : World → Heap → Prop} {d : DefRec} {sp : PySem.W.Frag → Sp} {x : Str}
    (most : l.most = some n) (line : n ≤ sizeLine) (nodef : d.params.defaults = []) (room : Room k callerA)
    (F : ∀ (w : World) (mg : Str → Option Value) (fa : Addr) (h : Heap), YP w h → h.Ns mainGlobals mg → mg d.name = some (.ref fa) →
      ∃ (K : PySem.W.Frag) (fd : FuncData), K.In h ∧ (∀ (s : Shared) (u : Value), BindsTo s fd ⟨[u], []⟩ [(x, u)]) ∧
        ∀ base : Heap, K.In base → base.Ns mainGlobals mg → FnG l.prog w K mg base CX0 k fa fd [x] (sp K))
    (hsp : ∀ (K : PySem.W.Frag) (H : Hp) (a : Addr) (ns : List Int), ns.length ≤ n → SqL K H a (ns.map V.int) → sp K [.ref a] H (fun v _ => v = .bl true) fun _ _ _ => False) :
    PySem.W.WalkO q loose XP YP l.row.toRowW d [] (fun f vs => PySem.call f vs) := by
  refine Att.attach_call most nodef fun w s0 s1 mg mb fa o pm cd doc a vs ns G Y _ _ _ named obj whole few gens => ?_
  obtain ⟨K, fd, kin, bind, all⟩ := F w mg fa _ Y G.T.g named
  exact lawG kin G.T.g G.T.b G.T.builtins G.T.nolimit gens obj whole (Nat.le_trans few line) room all bind fun H hS => hsp _ H a ns few hS
end Zd
namespace Zd
open PySem PySem.Spec PyProof.Rows L2 Zg
mutual
def lowL (n : Nat) : Dat → Bool
  | .loc k => decide (k < n)
  | .tup ds => lowLs n ds
  | .lst ds => lowLs n ds
  | .dic _ ds => lowLs n ds
  | .obj _ _ ds => lowLs n ds
  | _ => true
def lowLs (n : Nat) : List Dat → Bool
  | [] => true
  | d :: ds => lowL n d && lowLs n ds
end
def frzN (S : List Dat) (m : Nat) : Nat → Dat → Option Dat
  | 0, _ => none
  | n + 1, d => match d with
    | .loc k => match decide (m ≤ k) with
      | true => match S[k]? with
        | some t => frzN S m n t
        | none => none
      | false => none
    | .tup ds => match frzs (frzN S m n) ds with
      | some es => some (.tup es)
      | none => none
    | .lst ds => match frzs (frzN S m n) ds with
      | some es => some (.lst es)
      | none => none
    | .dic ks ds => match frzs (frzN S m n) ds with
      | some es => some (.dic ks es)
      | none => none
    | .obj c fs ds => match frzs (frzN S m n) ds with
      | some es => some (.obj c fs es)
      | none => none
    | .non => some .non
    | .bl b => some (.bl b)
    | .int i => some (.int i)
    | .str x => some (.str x)
    | .ty x => some (.ty x)
    | .cls x => some (.cls x)
    | .scr x => some (.scr x)
section
variable {Z : Cz} {H : Hp} {p pc : Pl} {S : List Dat}
mutual
theorem IsD.low {n : Nat} (hα : ∀ (k : Nat) (a : Addr), k < n → p.α[k]? = some a → pc.α[k]? = some a) (hs : ∀ a, pc.has a → p.has a) : ∀ (d : Dat) {v : V}, lowL n d = true → IsD Z H p v d → IsD Z H pc v d
  | .non, _, _, h => isD_non.mpr (isD_non.mp h)
  | .bl b, _, _, h => isD_bl.mpr (isD_bl.mp h)
  | .int i, _, _, h => isD_int.mpr (isD_int.mp h)
  | .str x, _, _, h => isD_str.mpr (isD_str.mp h)
  | .ty n, _, _, h => isD_ty.mpr (isD_ty.mp h)
  | .cls c, _, _, h => by unfold IsD at h ⊢; exact h
  | .scr ns, _, _, h => by
    obtain ⟨a, e, h⟩ := isD_scr.mp h
    exact isD_scr.mpr ⟨a, e, h.imp (fun q => ⟨q.1, fun z => q.2 (hs a z)⟩) id⟩
  | .tup ds, _, n, h => by
    obtain ⟨a, vs, e, h1, h2⟩ := isD_tup.mp h
    exact isD_tup.mpr ⟨a, vs, e, h1.imp (fun q => ⟨q.1, fun z => q.2 (hs a z)⟩) id, IsDs.low hα hs ds (by rw [lowL] at n; exact n) h2⟩
  | .lst ds, _, n, h => by
    obtain ⟨a, vs, e, h1, h2⟩ := isD_lst.mp h
    exact isD_lst.mpr ⟨a, vs, e, ⟨h1.1, fun z => h1.2 (hs a z)⟩, IsDs.low hα hs ds (by rw [lowL] at n; exact n) h2⟩
  | .dic ks ds, _, n, h => by
    obtain ⟨a, vs, e, h1, hl, h2⟩ := isD_dic.mp h
    exact isD_dic.mpr ⟨a, vs, e, ⟨h1.1, fun z => h1.2 (hs a z)⟩, hl, IsDs.low hα hs ds (by rw [lowL] at n; exact n) h2⟩
  | .obj c fs ds, _, n, h => by
    obtain ⟨a, vs, e, h1, hl, h2⟩ := isD_obj.mp h
    exact isD_obj.mpr ⟨a, vs, e, ⟨h1.1, fun z => h1.2 (hs a z)⟩, hl, IsDs.low hα hs ds (by rw [lowL] at n; exact n) h2⟩
  | .loc k, _, n, h => by
    obtain ⟨a, e, g⟩ := isD_loc.mp h
    exact isD_loc.mpr ⟨a, e, hα k a (by rw [lowL] at n; exact of_decide_eq_true n) g⟩
theorem IsDs.low {n : Nat} (hα : ∀ (k : Nat) (a : Addr), k < n → p.α[k]? = some a → pc.α[k]? = some a) (hs : ∀ a, pc.has a → p.has a) : ∀ (ds : List Dat) {vs : List V}, lowLs n ds = true → IsDs Z H p vs ds → IsDs Z H pc vs ds
  | [], _, _, h => isDs_nil.mpr (isDs_nil.mp h)
  | d :: ds, _, n, h => by
    obtain ⟨v, r, e, h1, h2⟩ := isDs_cons.mp h
    rw [lowLs, Bool.and_eq_true] at n
    exact isDs_cons.mpr ⟨v, r, e, IsD.low hα hs d n.1 h1, IsDs.low hα hs ds n.2 h2⟩
end
theorem frzN_is {m : Nat} (s : IsS Z H p S) (hs : ∀ a, pc.has a → p.has a) (hn : ∀ (k : Nat) (a : Addr), m ≤ k → p.α[k]? = some a → ¬ pc.has a) : ∀ (n : Nat) (d e : Dat) (v : V), frzN S m n d = some e → (IsD Z H p v d → IsD Z H pc v e) ∧ (∀ a, v = .ref a → ¬ pc.has a → IsTop Z H p a d → IsD Z H pc v e)
  | 0, _, _, _, h => by cases h
  | n + 1, d, e, v, h => by
    have ih := frzN_is s hs hn n
    have its : ∀ (ds : List Dat) (es : List Dat) (vs : List V), frzs (frzN S m n) ds = some es → IsDs Z H p vs ds → IsDs Z H pc vs es := fun ds es vs h k => frzs_is (fun d e v h k => (ih d e v h).1 k) ds h k
    have nh : ∀ a, ¬ p.has a → ¬ pc.has a := fun a h z => h (hs a z)
    cases d with
    | loc k =>
      unfold frzN at h
      refine ⟨fun g => ?_, fun a _ _ g => g.elim⟩
      obtain ⟨a, ev, ha⟩ := isD_loc.mp g
      dsimp only at h
      cases em : decide (m ≤ k) with
      | false => rw [em] at h; cases h
      | true =>
        rw [em] at h
        dsimp only at h
        split at h
        · rename_i t et
          exact (ih t e v h).2 a ev (hn k a (of_decide_eq_true em) ha) (s.at_ k a t ha et)
        · cases h
    | tup ds =>
      unfold frzN at h
      dsimp only at h
      split at h
      · rename_i es ee
        cases h
        refine ⟨fun g => ?_, fun a _ _ g => g.elim⟩
        obtain ⟨a, vs, ev, h1, h2⟩ := isD_tup.mp g
        exact isD_tup.mpr ⟨a, vs, ev, h1.imp (fun q => ⟨q.1, nh a q.2⟩) id, its _ _ _ ee h2⟩
      · cases h
    | lst ds =>
      unfold frzN at h
      dsimp only at h
      split at h
      · rename_i es ee
        cases h
        refine ⟨fun g => ?_, fun a ev na g => ?_⟩
        · obtain ⟨a, vs, ev, h1, h2⟩ := isD_lst.mp g
          exact isD_lst.mpr ⟨a, vs, ev, ⟨h1.1, nh a h1.2⟩, its _ _ _ ee h2⟩
        · obtain ⟨vs, h1, h2⟩ := g
          exact isD_lst.mpr ⟨a, vs, ev, ⟨h1, na⟩, its _ _ _ ee h2⟩
      · cases h
    | dic ks ds =>
      unfold frzN at h
      dsimp only at h
      split at h
      · rename_i es ee
        cases h
        refine ⟨fun g => ?_, fun a ev na g => ?_⟩
        · obtain ⟨a, vs, ev, h1, hl, h2⟩ := isD_dic.mp g
          exact isD_dic.mpr ⟨a, vs, ev, ⟨h1.1, nh a h1.2⟩, hl, its _ _ _ ee h2⟩
        · obtain ⟨vs, h1, hl, h2⟩ := g
          exact isD_dic.mpr ⟨a, vs, ev, ⟨h1, na⟩, hl, its _ _ _ ee h2⟩
      · cases h
    | obj c fs ds =>
      unfold frzN at h
      dsimp only at h
      split at h
      · rename_i es ee
        cases h
        refine ⟨fun g => ?_, fun a ev na g => ?_⟩
        · obtain ⟨a, vs, ev, h1, hl, h2⟩ := isD_obj.mp g
          exact isD_obj.mpr ⟨a, vs, ev, ⟨h1.1, nh a h1.2⟩, hl, its _ _ _ ee h2⟩
        · obtain ⟨dx, vs, h1, hl, h2⟩ := g
          exact isD_obj.mpr ⟨a, vs, ev, ⟨⟨dx, h1⟩, na⟩, hl, its _ _ _ ee h2⟩
      · cases h
    | non => cases h; exact ⟨fun g => isD_non.mpr (isD_non.mp g), fun a _ _ g => g.elim⟩
    | bl b => cases h; exact ⟨fun g => isD_bl.mpr (isD_bl.mp g), fun a _ _ g => g.elim⟩
    | int i => cases h; exact ⟨fun g => isD_int.mpr (isD_int.mp g), fun a _ _ g => g.elim⟩
    | str x => cases h; exact ⟨fun g => isD_str.mpr (isD_str.mp g), fun a _ _ g => g.elim⟩
    | ty x => cases h; exact ⟨fun g => isD_ty.mpr (isD_ty.mp g), fun a _ _ g => g.elim⟩
    | cls x => cases h; exact ⟨fun g => by unfold IsD at g ⊢; exact g, fun a _ _ g => g.elim⟩
    | scr x =>
      cases h
      refine ⟨fun g => ?_, fun a _ _ g => g.elim⟩
      obtain ⟨a, e, h⟩ := isD_scr.mp g
      exact isD_scr.mpr ⟨a, e, h.imp (fun q => ⟨q.1, nh a q.2⟩) id⟩
theorem IsTop.low {n : Nat} (hα : ∀ (k : Nat) (a : Addr), k < n → p.α[k]? = some a → pc.α[k]? = some a) (hs : ∀ a, pc.has a → p.has a) {a : Addr} {d : Dat} (l : lowL n d = true) (h : IsTop Z H p a d) : IsTop Z H pc a d := by
  cases d with
  | lst ds => obtain ⟨vs, e, k⟩ := h; exact ⟨vs, e, IsDs.low hα hs ds (by rw [lowL] at l; exact l) k⟩
  | dic ks ds => obtain ⟨vs, e, g, k⟩ := h; exact ⟨vs, e, g, IsDs.low hα hs ds (by rw [lowL] at l; exact l) k⟩
  | obj c fs ds => obtain ⟨dx, vs, e, g, k⟩ := h; exact ⟨dx, vs, e, g, IsDs.low hα hs ds (by rw [lowL] at l; exact l) k⟩
  | _ => exact h.elim
end
theorem lowLs_at {n k : Nat} {d : Dat} : ∀ {ds : List Dat}, lowLs n ds = true → ds[k]? = some d → lowL n d = true := by
  intro ds
  induction ds generalizing k with
  | nil => intro _ h; cases h
  | cons x r ih =>
    intro h e
    rw [lowLs, Bool.and_eq_true] at h
    cases k with
    | zero => cases e; exact h.1
    | succ k => exact ih h.2 e
def callP (F : List Dat → M Dat) (ds : List Dat) : M Dat := fun S => match F ds S with
  | .ok d S' => match decide (S.length ≤ S'.length) && lowLs S.length (S'.take S.length) with
    | true => match frzN S' S.length 40 d with
      | some e => .ok e (S'.take S.length)
      | none => .bad
    | false => .bad
  | _ => .bad
theorem via_P {Z : Cz} {n : Nat} {F : List Dat → M Dat} : Via Z n F (callP F) := fun Er H p S vs ds Q E hn hd hS q => by
  refine call_sp (Er := Er) hn hd hS ?_
  unfold calm callP at q
  unfold calm
  cases eF : F ds S with
  | bad => rw [eF] at q; exact q.elim
  | er c fs S' => rw [eF] at q; exact q.elim
  | ok d S' =>
    rw [eF] at q
    dsimp only at q
    cases eb : (decide (S.length ≤ S'.length) && lowLs S.length (S'.take S.length)) with
    | false => rw [eb] at q; exact q.elim
    | true =>
      rw [eb] at q
      dsimp only at q
      rw [Bool.and_eq_true, decide_eq_true_eq] at eb
      obtain ⟨le, low⟩ := eb
      cases ez : frzN S' S.length 40 d with
      | none => rw [ez] at q; exact q.elim
      | some e =>
        rw [ez] at q
        intro H' p' ee s v hv
        obtain ⟨β, eα, fβ⟩ := ee.α
        have lα : p.α.length = S.length := hS.len
        have hα : ∀ (k : Nat) (a : Addr), k < S.length → p'.α[k]? = some a → p.α[k]? = some a := fun k a lk h => by
          rw [eα, List.getElem?_append_left (by omega)] at h
          exact h
        have hs : ∀ a, p.has a → p'.has a := fun a h => by
          rcases h with h | h | h
          · exact .inl (by rw [eα]; exact List.mem_append_left _ h)
          · exact .inr (.inl (by rw [ee.ω]; exact h))
          · exact .inr (.inr (by rw [ee.γ]; exact h))
        have hnew : ∀ (k : Nat) (a : Addr), S.length ≤ k → p'.α[k]? = some a → ¬ p.has a := fun k a lk h z => by
          rw [eα, List.getElem?_append_right (by omega)] at h
          exact hS.tracked z (fβ a (List.mem_of_getElem? h))
        have isS : IsS Z H' p (S'.take S.length) := by
          refine ⟨by rw [List.length_take]; omega, hS.nd, hS.dj, hS.dg, fun a h => ee.t a (hS.wt a h), fun k a d0 h1 h2 => ?_⟩
          have lk : k < S.length := by have := (List.getElem?_eq_some_iff.mp h1).1; omega
          have h3 : S'[k]? = some d0 := by
            rw [List.getElem?_take] at h2
            rw [if_pos lk] at h2
            exact h2
          have h4 : p'.α[k]? = some a := by
            rw [eα, List.getElem?_append_left (by omega)]
            exact h1
          exact IsTop.low (n := S.length) hα hs (lowLs_at low h2) (s.at_ k a d0 h4 h3)
        have ext : ExtE H p H' p := ⟨⟨[], by simp⟩, rfl, rfl, ee.k, ee.t⟩
        exact q H' p ext isS v ((frzN_is s hs hnew 40 d e v ez).1 hv)
end Zd
namespace Zd
open PySem PySem.Spec PyProof.Rows L2 Zg
def getLo (n : Nat) (k : Key) : M Dat := fun S => match S[n]? with
  | some (.dic ks ds) => M.opt (lkK k ks ds) S
  | _ => .bad
def xDGetLo (o b : Env → M Dat) (ρ : Env) : M Dat := o ρ >>= fun y => M.opt (dLoc y) >>= fun n => b ρ >>= fun z => M.opt (keyD z) >>= fun k => getLo n k
section
variable {Z : Cz} {Er : ErW} {O : List Nat} {ta tb : TE} {m1 m2 : Env → M Dat}
theorem j_dgetLo (ho : JD Z Er O ta m1) (hb : JD Z Er O tb m2) : JD Z Er O (tDGet ta tb) (xDGetLo m1 m2) := fun σ H p ρ S Q hE hS q =>
  ho σ H p ρ S _ hE hS ((q.bnd xE).mono fun o S1 H1 p1 e1 s1 q1 v hv => by
    obtain ⟨n, en, q1⟩ := Post.opt q1
    rw [dLoc_is en] at hv
    refine hb σ H1 p1 ρ S1 _ (hE.ext e1 hS) s1 ((q1.bnd xE).mono fun z S2 H2 p2 e2 s2 q2 w hw => ?_)
    obtain ⟨k, ek, q2⟩ := Post.opt q2
    obtain ⟨a, rfl, hα⟩ := isD_loc.mp (hv.ext e2.s)
    unfold getLo at q2
    split at q2
    · rename_i ks ds et
      obtain ⟨x, ex, kk⟩ := opt_pure xE q2 s2
      obtain ⟨vs, g1, gl, g2⟩ := s2.at_ n a _ hα et
      obtain ⟨u, g3, g4⟩ := lkK_rel g2 ex
      exact ⟨a, u, rfl, .inl ⟨_, k, .inl g1, keyD_is hw ek, g3.symm⟩, kk u g4⟩
    · exact q2.elim)
variable {te : TE} {tl th : TO} {m : Env → M Dat} {ml mh : Env → M (Option Int)}
def dCutX (d : Dat) (lo hi : Option Int) : M Dat := match d with
  | .str x => M.need (decide (x.length ≤ 100000)) >>= fun _ => pure (.str (cutS x lo hi))
  | _ => M.no
theorem j_slX (h : JD Z Er O te m) (hl : JO Z Er O tl ml) (hh : JO Z Er O th mh) : JD Z Er O (tSl rSlS te tl th) (jSl dCutX m ml mh) := fun σ H p ρ S Q hE hS q =>
  h σ H p ρ S _ hE hS ((q.bnd xE).mono fun d S1 H1 p1 e1 s1 q1 v hv => hl σ H1 p1 ρ S1 _ (hE.ext e1 hS) s1 ((q1.bnd xE).mono fun lo S2 H2 p2 e2 s2 q2 lo' elo => hh σ H2 p2 ρ S2 _ ((hE.ext e1 hS).ext e2 s1) s2 ((q2.bnd xE).mono fun hi S3 H3 p3 e3 s3 q3 hi' ehi => by
    subst elo ehi
    unfold dCutX at q3
    split at q3
    · rename_i x
      obtain ⟨c, q3⟩ := Post.need q3
      exact ⟨x, isD_str.mp hv, lim (of_decide_eq_true c), q3.pure xE s3 _ (isD_str.mpr rfl)⟩
    · exact (bad_no q3).elim)))
end
end Zd
namespace Zd
open PySem PySem.Spec PyProof.Rows L2
theorem mul_self (l : Addr) (vs : Array Value) (n : Nat) (dd : Option Addr) (sl : Array (Option Value)) (u : Tok) :
    Meets (Builtin.«tuple.__mul__» ⟨[.ref l, .int 1 u], []⟩) (fun _ R s => s.heap.get? l = some { cls := .type "tuple", dict := dd, data := .seq vs n, slots := sl } ∧ R (.ok (.ret (.ref l))) s) := .of_wp fun prog w A R s h => by
  obtain ⟨hp, g, d, tk, os⟩ := s
  obtain ⟨hl, h⟩ := h
  have k0 : (decide ((1 : Int) < -(2 ^ 63)) || decide ((1 : Int) ≥ 2 ^ 63)) = false := by decide
  have k1 : (vs.isEmpty || (1 : Int) == 1) = true := by rw [show ((1 : Int) == 1) = true from rfl, Bool.or_true]
  wp_walk using wpAny_loadPart' hl
  repeat (first
    | (refine wpAny_ite_false (decide_eq_false (by rw [k0]; exact nofun)) ?_; wp_walk using wpAny_loadPart' hl)
    | (refine wpAny_ite_true (decide_eq_true k1) ?_; wp_walk using wpAny_loadPart' hl))
  exact ⟨_, rfl, h⟩
def rRepA (K : PySem.W.Frag) : R2 := fun x y H Q => ∃ a n vs, x = .ref a ∧ y = .int n ∧ SqT K H a vs ∧ vs ≠ [] ∧ 1 ≤ n ∧ n ≤ 1000 ∧ vs.length ≤ 1000 ∧ (n = 1 → Q (.ref a) H) ∧ (2 ≤ n → NewT (List.replicate n.toNat vs).flatten H Q)
section
variable {X : Cx}
theorem op_repA : OpR X (binaryOp .Mult) (rRepA X.K) := fun pins s σ H x y v u Q I rx ry h => by
  obtain ⟨a, n, vs, rfl, rfl, hT, ne, n1, n2, lv, q1, q2⟩ := h
  cases rx
  obtain ⟨t, rfl⟩ := ry
  obtain ⟨its, r, ⟨⟨cl, dd, dat, sl⟩, ho, hc, m, hd⟩, hs⟩ := I.tuple hT
  simp only at hc hd
  subst hc
  subst hd
  have len : its.length = vs.length := r.length.symm
  have ni : its ≠ [] := fun z => ne (by
    rw [z] at len
    exact List.eq_nil_of_length_eq_zero len.symm)
  have em : its.toArray.isEmpty = false := by
    cases its with
    | nil => exact absurd rfl ni
    | cons _ _ => rfl
  have sz : its.toArray.size = vs.length := by rw [List.size_toArray, len]
  refine wpAny_binaryOp_repeat_ref (U := "int") (T := "tuple") (by decide) ⟨_, ho, rfl⟩ (fun s2 => typeIs_int s2 n t) noFill_tuple_mul F.fills_int_mul
    F.slot_int_rmul repeat_tuple F.slot_int_index.lookup (call_meets F.slot_int_rmul (typeIs_int s n t) F.entry_int_rmul
      (F.args_int_rmul_2 _ _) (int_rmul_tuple n t a its.toArray m dd sl) ⟨ho, rfl, ⟨_, ho, rfl⟩, ?_⟩)
  by_cases e1 : n = 1
  · subst e1
    refine (call_meets F.slot_tuple_mul ⟨_, ho, rfl⟩ F.entry_tuple_mul (F.args_tuple_mul_2 _ _)
      (mul_self a its.toArray m dd sl t) ⟨ho, ?_⟩)
    exact ⟨.ref a, H, I, rfl, q1 rfl⟩
  · have g2 : 2 ≤ n := by omega
    have prod : ((its.toArray.size : Nat) : Int) * n ≤ 1000000 := by
      rw [sz]
      have z : ((vs.length : Nat) : Int) * n ≤ 1000 * n := Int.mul_le_mul_of_nonneg_right (by omega) (by omega)
      omega
    have big : (List.replicate n.toNat its).flatten.length ≤ sizeLine := by
      rw [PyProof.Rows.lm_len_rep_flat, len]
      have z : n.toNat * vs.length ≤ 1000 * 1000 := Nat.mul_le_mul (by omega) lv
      have := sizeLine_eq
      omega
    have b0 : (decide (n < -(2 ^ 63)) || decide (n ≥ 2 ^ 63)) = false := by rw [decide_eq_false (by omega), decide_eq_false (by omega)]; rfl
    have b1 : (its.toArray.isEmpty || n == 1) = false := by rw [em, Bool.false_or, beq_eq_false_iff_ne]; exact e1
    have b2 : (decide (n ≤ 0) || its.toArray.isEmpty) = false := by rw [em, Bool.or_false, decide_eq_false (by omega)]
    have b4 : Builtin.Tuple.tupleTooMany (((its.toArray.size : Nat) : Int) * n) = false := by
      unfold Builtin.Tuple.tupleTooMany
      have := sizeLine_eq
      exact decide_eq_false (by omega)
    refine (call_meets F.slot_tuple_mul ⟨_, ho, rfl⟩ F.entry_tuple_mul (F.args_tuple_mul_2 _ _)
      (tuple_mulW a its.toArray m dd sl n t b0 b1 b2 (by omega) b4 (by rw [size_rep, List.size_toArray]; exact big)) ⟨ho, ?_⟩)
    rw [size_rep]
    exact lay_tup I (r.rep n.toNat) (by
      rw [PyProof.Rows.lm_len_rep_flat]
      have z : n.toNat * vs.length ≤ 1000 * 1000 := Nat.mul_le_mul (by omega) lv
      have := sizeLine_eq
      omega) (q2 g2)
end
end Zd
namespace Zd
open PySem PySem.Spec PyProof.Rows L2
theorem tuple_mul0 (l : Addr) (vs : Array Value) (n : Nat) (dd : Option Addr) (sl : Array (Option Value)) (x : Int) (u : Tok) (c0 : (decide (x < -(2 ^ 63)) || decide (x ≥ 2 ^ 63)) = false) (c1 : (vs.isEmpty || x == 1) = false) (c2 : (decide (x ≤ 0) || vs.isEmpty) = true) :
    Meets (Builtin.«tuple.__mul__» ⟨[.ref l, .int x u], []⟩) (fun _ R s => s.heap.get? l = some { cls := .type "tuple", dict := dd, data := .seq vs n, slots := sl } ∧
      R (.ok (.ret (Value.ref s.heap.objs.size))) { s with heap := s.heap.push { cls := Value.type "tuple", data := Data.seq #[] }, toks := s.toks }) :=
  .of_wp fun prog w A R s h => by
    obtain ⟨hp, g, d, tk, os⟩ := s
    obtain ⟨hl, h⟩ := h
    have f1 := AutoSeq1.idx_int
    wp_walk using wpAny_loadPart' hl
    repeat (first
      | (refine wpAny_ite_false (decide_eq_false (by rw [c0]; exact Bool.false_ne_true)) ?_; wp_walk using wpAny_loadPart' hl)
      | (refine wpAny_ite_false (decide_eq_false (by rw [c1]; exact Bool.false_ne_true)) ?_; wp_walk using wpAny_loadPart' hl)
      | (refine wpAny_ite_true (decide_eq_true c2) ?_; wp_walk using wpAny_loadPart' hl))
    exact ⟨_, rfl, h⟩
def rRepB (K : PySem.W.Frag) : R2 := fun x y H Q => ∃ a n vs, x = .ref a ∧ y = .int n ∧ SqT K H a vs ∧ vs ≠ [] ∧ -1000 ≤ n ∧ n ≤ 1000 ∧ vs.length ≤ 1000 ∧ (n = 1 → Q (.ref a) H) ∧ (n ≤ 0 → NewT [] H Q) ∧ (2 ≤ n → NewT (List.replicate n.toNat vs).flatten H Q)
section
variable {X : Cx}
theorem op_repB : OpR X (binaryOp .Mult) (rRepB X.K) := fun pins s σ H x y v u Q I rx ry h => by
  obtain ⟨a, n, vs, rfl, rfl, hT, ne, n0, n2, lv, q1, q0, q2⟩ := h
  by_cases n1 : 1 ≤ n
  · exact op_repA pins s σ H _ _ v u Q I rx ry ⟨a, n, vs, rfl, rfl, hT, ne, n1, n2, lv, q1, q2⟩
  · cases rx
    obtain ⟨t, rfl⟩ := ry
    obtain ⟨its, r, ⟨⟨cl, dd, dat, sl⟩, ho, hc, m, hd⟩, hs⟩ := I.tuple hT
    simp only at hc hd
    subst hc
    subst hd
    have len : its.length = vs.length := r.length.symm
    have ni : its ≠ [] := fun z => ne (by
      rw [z] at len
      exact List.eq_nil_of_length_eq_zero len.symm)
    have em : its.toArray.isEmpty = false := by
      cases its with
      | nil => exact absurd rfl ni
      | cons _ _ => rfl
    have b0 : (decide (n < -(2 ^ 63)) || decide (n ≥ 2 ^ 63)) = false := by rw [decide_eq_false (by omega), decide_eq_false (by omega)]; rfl
    have b1 : (its.toArray.isEmpty || n == 1) = false := by rw [em, Bool.false_or, beq_eq_false_iff_ne]; omega
    have b2 : (decide (n ≤ 0) || its.toArray.isEmpty) = true := by rw [decide_eq_true (by omega)]; rfl
    refine wpAny_binaryOp_repeat_ref (U := "int") (T := "tuple") (by decide) ⟨_, ho, rfl⟩ (fun s2 => typeIs_int s2 n t) noFill_tuple_mul F.fills_int_mul
      F.slot_int_rmul repeat_tuple F.slot_int_index.lookup (call_meets F.slot_int_rmul (typeIs_int s n t) F.entry_int_rmul
        (F.args_int_rmul_2 _ _) (int_rmul_tuple n t a its.toArray m dd sl) ⟨ho, rfl, ⟨_, ho, rfl⟩, ?_⟩)
    refine (call_meets F.slot_tuple_mul ⟨_, ho, rfl⟩ F.entry_tuple_mul (F.args_tuple_mul_2 _ _)
      (tuple_mul0 a its.toArray m dd sl n t b0 b1 b2) ⟨ho, ?_⟩)
    exact lay_tup I (xs := []) (its := []) .nil (Nat.zero_le _) (q0 (by omega))
end
def dRepB (d e : Dat) : M Dat := match d, e with
  | .tup xs, .int n => M.need (decide (-1000 ≤ n ∧ n ≤ 1000) && (decide (xs.length ≤ 1000) && !xs.isEmpty)) >>= fun _ => pure (.tup (List.replicate n.toNat xs).flatten)
  | _, _ => M.no
theorem r_repB {Z : Cz} : JRD Z (rRepB Z.K) dRepB := fun x y d e Er H p S Q hx hy s q => by
  unfold dRepB at q
  split at q
  · rename_i xs n
    obtain ⟨c, q⟩ := q.need
    simp only [Bool.and_eq_true, decide_eq_true_eq, Bool.not_eq_true'] at c
    obtain ⟨a, vs, rfl, h1, h2⟩ := isD_tup.mp hx
    refine ⟨a, n, vs, rfl, isD_int.mp hy, h1.sq, fun z => ?_, c.1.1, c.1.2, by rw [h2.len]; exact c.2.1, fun n1 => ?_, fun n0 t o nt nd => ?_, fun _ t o nt nd => q.at_new s nt _ (new_tup s nt nd (h2.rep _))⟩
    · subst z
      have := h2.len
      cases xs with
      | nil => cases c.2.2
      | cons _ _ => cases this
    · subst n1
      have e : (List.replicate (1 : Int).toNat xs).flatten = xs := by
        show (List.replicate 1 xs).flatten = xs
        rw [List.replicate_succ, List.replicate_zero, List.flatten_cons, List.flatten_nil, List.append_nil]
      rw [e] at q
      exact q.pure xE s _ hx
    · have e : (List.replicate n.toNat xs).flatten = [] := by
        rw [show n.toNat = 0 by omega]
        rfl
      rw [e] at q
      exact q.at_new s nt _ (new_tup s nt nd (isDs_nil.mpr rfl))
  · exact (bad_no q).elim
end Zd
namespace Zd
open PySem PySem.Spec PyProof.Rows L2 Zg
def dIxS (d e : Dat) : M Dat := match d, e with
  | .str z, .int i => M.need (decide (z.length ≤ 1000)) >>= fun _ => M.opt (atI z.cps.toList i) >>= fun c => pure (.str ⟨#[c]⟩)
  | _, _ => M.no
theorem r_ixS {Z : Cz} : JRD Z rIxS dIxS := fun x y d e Er H p S Q hx hy s q => by
  unfold dIxS at q
  split at q
  · rename_i z i
    obtain ⟨c, q⟩ := q.need
    obtain ⟨u, e, q⟩ := q.opt
    have c := of_decide_eq_true c
    have := sizeLine_eq
    exact ⟨z, i, u, isD_str.mp hx, isD_int.mp hy, by omega, e, q.pure xE s _ (isD_str.mpr rfl)⟩
  · exact (bad_no (S := S) q).elim
def rMulS : R2 := fun x y H Q => ∃ (a : Str) (i : Int), x = .str a ∧ y = .int i ∧ PySem.MulOk a i ∧ Q (.str (Txt.mul a i)) H
theorem op_repS {X : Cx} : OpR X (binaryOp .Mult) rMulS := by
  intro pins s σ H x y v u Q I rx ry h
  obtain ⟨a, i, rfl, rfl, ok, q⟩ := h
  obtain ⟨t, rfl⟩ := rx
  obtain ⟨t2, rfl⟩ := ry
  exact PySem.SB.mul ok fun t' k => ⟨.str _, H, I.tok _, ⟨_, rfl⟩, q⟩
def dMulS (d e : Dat) : M Dat := match d, e with
  | .str a, .int n => M.need (decide (a.length ≤ 1000) && decide (0 ≤ n ∧ n ≤ 1000)) >>= fun _ => pure (.str (Txt.mul a n))
  | _, _ => M.no
theorem r_mulS {Z : Cz} : JRD Z rMulS dMulS := fun x y d e Er H p S Q hx hy s q => by
  unfold dMulS at q
  split at q
  · rename_i a n
    obtain ⟨c, q⟩ := q.need
    rw [Bool.and_eq_true, decide_eq_true_eq, decide_eq_true_eq] at c
    exact ⟨a, n, isD_str.mp hx, isD_int.mp hy, PyProof.Rows.mulOk_of 1000 1000 c.1 (by omega) (by omega) (by decide) (by decide), q.pure xE s _ (isD_str.mpr rfl)⟩
  · exact (bad_no (S := S) q).elim
def tysL : List String := ["NoneType", "bool", "int", "str", "list", "tuple", "dict"]
structure EqA (Z : Cz) (c : String) (cs : List String) : Prop where
  nf : ∀ t, t ∈ tysL → PySem.W.notFirst Z.K (Z.κ c) (.type t) = true
  nk : ∀ t, t ∈ tysL → PySem.W.kitOne Z.K (.type t) (.ref (Z.κ c)) = some false
  ic : InsT Z c
  ns : PySem.W.notFirst Z.K (Z.κ c) (.ref (Z.κ c)) = true
  cs : ∀ c2, c2 ∈ cs → InsT Z c2 ∧ PySem.W.notFirst Z.K (Z.κ c) (.ref (Z.κ c2)) = true ∧ PySem.W.kitOne Z.K (.ref (Z.κ c2)) (.ref (Z.κ c)) = some false
  ne : PySem.W.findIn Z.K (.ref (Z.κ c)) "__ne__" = some (some (.builtin "object.__ne__"))
  ob : PySem.W.mroIn Z.K (Z.κ c) (.type "object") = some true
theorem tyN_in {d : Dat} {t : String} (e : tyN d = some t) : t ∈ tysL := by
  cases d <;> first | (cases e; decide) | cases e
/-- whether a value is an instance of the class: of it, of one of those that are told, or of a built-in type -/
def isC (c : String) (cs : List String) (S : List Dat) (d : Dat) : Option Bool := match insD S d with
  | some (c1, _) => if c1 = c then some true else if cs.contains c1 then some false else none
  | none => match tyN d with
    | some _ => some false
    | none => none
theorem isC_ty {Z : Cz} {c : String} {cs : List String} (E : EqA Z c cs) {H : Hp} {p : Pl} {S : List Dat} {v : V} {d : Dat} {b : Bool} (s : IsS Z H p S) (hv : IsD Z H p v d) (e : isC c cs S d = some b) : ∃ ty, TyX Z.K H v ty ∧ PySem.W.notFirst Z.K (Z.κ c) ty = true ∧ PySem.W.kitOne Z.K ty (.ref (Z.κ c)) = some b := by
  unfold isC at e
  cases ei : insD S d with
  | some o =>
    obtain ⟨c1, fs⟩ := o
    rw [ei] at e
    dsimp only at e
    obtain ⟨a, dx, vs, rfl, ha⟩ := ins_is s hv ei
    by_cases q : c1 = c
    · rw [if_pos q] at e
      cases e
      subst q
      exact ⟨.ref (Z.κ c1), .base (.ins ha E.ic.cl E.ic.ha E.ic.hn E.ic.htk E.ic.hm), E.ns, E.ic.me⟩
    · rw [if_neg q] at e
      by_cases r : cs.contains c1 = true
      · rw [if_pos r] at e
        cases e
        obtain ⟨T, h1, h2⟩ := E.cs c1 (List.contains_iff_mem.mp r)
        exact ⟨.ref (Z.κ c1), .base (.ins ha T.cl T.ha T.hn T.htk T.hm), h1, h2⟩
      · rw [if_neg r] at e
        cases e
  | none =>
    rw [ei] at e
    dsimp only at e
    cases et : tyN d with
    | none => rw [et] at e; cases e
    | some t =>
      rw [et] at e
      cases e
      exact ⟨.type t, tyx_of hv.w et, E.nf t (tyN_in et), E.nk t (tyN_in et)⟩
def dIsiC (c : String) (cs : List String) (ds : List Dat) : M Dat := fun S => match ds with
  | [d, .cls c'] => match decide (c' = c) with
    | true => match isC c cs S d with
      | some b => .ok (.bl b) S
      | none => .bad
    | false => .bad
  | _ => .bad
theorem c_isiC {Z : Cz} {c : String} {cs : List String} (E : EqA Z c cs) : JC Z (IsDs Z) (IsD Z) (rIsi Z.K) (dIsiC c cs) := fun x d Er H p S Q hx s q => by
  unfold dIsiC at q
  split at q
  · rename_i d c'
    cases eb : decide (c' = c) with
    | false => rw [eb] at q; exact q.elim
    | true =>
      rw [eb] at q
      dsimp only at q
      have ec := of_decide_eq_true eb
      subst ec
      cases ei : isC c' cs S d with
      | none => rw [ei] at q; exact q.elim
      | some b =>
        rw [ei] at q
        obtain ⟨v, w, rfl, h1, h2⟩ := isDs_two hx
        obtain ⟨ty, k1, _, k3⟩ := isC_ty E s h1 ei
        have hw : w = .ref (Z.κ c') := by unfold IsD at h2; exact h2
        subst hw
        exact ⟨v, .ref (Z.κ c'), _, _, b, rfl, .own _, k1, k3, q H p xE.refl s _ (isD_bl.mpr rfl)⟩
  · exact q.elim
def rOwnA (K : PySem.W.Frag) (C : Addr) (sp : Sp) (E : XK) : R2 := fun x y H Q => ∃ a dx fs ty, x = .ref a ∧ H a = some (.ins C dx fs) ∧ TyX K H y ty ∧ PySem.W.notFirst K C ty = true ∧ sp [x, y] H Q E
section
variable {X : Cx} {CX : CXT} {C g : Addr} {fd : FuncData} {ps : List Str} {k : Nat} {sp : Sp} {E : XK}
theorem op_eqA {K0 : PySem.W.Frag} (hs : PySem.W.findIn X.K (.ref C) "__eq__" = some (some (.ref g))) (hf : PySem.W.isFn X.K (.ref g) = true)
    (F : FnOk X.prog X.w X.K X.mg X.base CX k g fd ps sp) (hr : Room k X.A) (hb : Binds X.K fd ps []) (hx : Passes CX X E) (hK : X.K = K0 := by rfl) : OpR X (compareOp .Eq) (rOwnA K0 C sp E) := by
  subst hK
  intro pins s σ H x y v u Q I rx ry h
  obtain ⟨a, dx, fs, ty, rfl, ha, hty, hnf, q⟩ := h
  cases (show v = Value.ref a from rx)
  obtain ⟨mA, O, _⟩ := ins_get I.hok ha
  obtain ⟨od, J, _⟩ := O.look
  obtain ⟨R, kx, kr, _⟩ := kit_of I ry hty
  obtain ⟨m, hF⟩ := I.fr
  show wpAny _ _ (richCompare .Eq (.ref a) u) _ _ s
  refine PySem.W.cmp_K (op := .Eq) (tb := ty) hr.units0 hF I.ok.mod.kin J (kx.ty _ _ I.kIn kr) hnf hs hf ?_
  refine wpAny_mono (run_in (us := [.ref a, u]) (ws := [.ref a, y]) F hr hb I.env0 hx I (.cons rfl (.cons ry .nil)) q) (fun w s' z => ?_) fun _ _ x => x
  obtain ⟨z', H', I', rz, qz⟩ := z
  exact SlX.cmpback rz ⟨z', H', I', rz, qz⟩
end
def dOwnA (c : String) (cs : List String) (G : List Dat → M Dat) (d e : Dat) : M Dat := fun S => match insD S d, isC c cs S e with
  | some (c1, _), some _ => match decide (c1 = c) with
    | true => calm (G [d, e]) S
    | false => .bad
  | _, _ => .bad
theorem r_ownA {Z : Cz} {c : String} {cs : List String} {F G : List Dat → M Dat} {E : XK} (A : EqA Z c cs) (V : Via Z 2 F G) : JRD Z (rOwnA Z.K (Z.κ c) (spD Z 2 F) E) (dOwnA c cs G) := fun x y d e Er H p S Q hx hy s q => by
  unfold dOwnA at q
  cases e1 : insD S d with
  | none => simp only [e1] at q; exact q.elim
  | some o1 =>
    cases e2 : isC c cs S e with
    | none => simp only [e1, e2] at q; exact q.elim
    | some b =>
      obtain ⟨c1, f1⟩ := o1
      simp only [e1, e2] at q
      cases eb : decide (c1 = c) with
      | false => rw [eb] at q; exact q.elim
      | true =>
        rw [eb] at q
        have k1 := of_decide_eq_true eb
        subst k1
        obtain ⟨a, dx, vs, rfl, ha⟩ := ins_is s hx e1
        obtain ⟨ty, h1, h2, _⟩ := isC_ty A s hy e2
        exact ⟨a, dx, _, ty, rfl, ha, h1, h2, V Er H p S _ [d, e] Q E rfl (isDs_cons.mpr ⟨_, _, rfl, hx, .one hy⟩) s q⟩
section
variable {M : Model} {prog : Program} {w : World} {A : Around} {E : Value → Shared → Prop} {s : Shared} {K : PySem.W.Frag} {x C f : Addr} {ox : Obj} {od : Option Obj} {b tb : Value}
theorem ifBound_ne {args : List Value} {Q : Option Value → Shared → Prop} (X : K.In s.heap) (I : PySem.W.InstAt s.heap x ox C od) (hs : PySem.W.findIn K (.ref C) "__ne__" = some (some (.builtin "object.__ne__")))
    (h : wpAny M A (call (.builtin "object.__ne__") (.ref x :: args)) (fun v => Q (some v)) E s) : wpAny M A (callSpecialIfBound? (.ref x) "__ne__" args) Q E s := by
  simp only [callSpecialIfBound?, bindSpecialIfBound?]
  refine wpAny_holding (wpAny_bind (wpAny_bind (wpAny_bind (I.type.here ((PySem.W.looks_findIn X hs).here ?_)))))
  refine wpAny_bind (wpAny_askSetting (wpAny_ite ?_))
  have fin : wpAny M A (call (.builtin "object.__ne__") ([.ref x] ++ args) >>= fun v => pure (some v)) Q E s := wpAny_bind (wpAny_mono h (fun v s' h' => wpAny_pure h') fun _ _ h' => h')
  split
  · exact wpAny_bind (wpAny_of_eq (F.cmp_object.ne.bind _) (wpAny_pure (by exact fin)))
  · exact wpAny_tryCatch (wpAny_bind (wpAny_of_eq (F.cmp_object.ne.bind _) (wpAny_pure (by exact fin))))
theorem entry_ne {Q : PySem.Fin → Shared → Prop} (hu : A.units < cLine) (X : K.In s.heap) (I : PySem.W.InstAt s.heap x ox C od) (hs : PySem.W.findIn K (.ref C) "__eq__" = some (some (.ref f))) (hf : PySem.W.isFn K (.ref f) = true)
    (h : wpAny (model prog w) A (call (.ref f) [.ref x, b]) (fun v s' => ∃ c, v = .bool c ∧ Q (.done (.ret (.bool (!c)))) s') E s) : wpAny (model prog w) A (Builtin.«object.__ne__» ⟨[.ref x, b], []⟩) Q E s := by
  unfold Builtin.«object.__ne__»
  repeat (first
    | with_reducible refine wpAny_cRoomFor hu ?_
    | (refine wpAny_bind (m := callSpecialIfBound? (.ref x) (Str.ofString "__eq__") [b])
        (PySem.W.ifBound_K X I hs hf (wpAny_mono h (fun r s' hr => by
          obtain ⟨c, rfl, hq⟩ := hr
          repeat (first | exact hq | exact wpAny_pure hq | exact wpAny_truthy_bool hq | (refine wpAny_bind (m := truthy (.bool _)) (wpAny_truthy_bool ?_)) | wp_step)) fun _ _ e => e)))
    | wp_step)
end
section
variable {prog : Program} {w : World} {A : Around} {E : Value → Shared → Prop} {s : Shared} {K : PySem.W.Frag} {x C f : Addr} {ox : Obj} {od : Option Obj} {b tb : Value}
theorem ne_KA {L : Addr} {h₀ : Heap} {m : Str → Option Value} {Q : Value → Shared → Prop} (hu : A.units + 1 < cLine) (F0 : PyProof.Rows.Fr h₀ L s.heap m) (X₀ : K.In h₀) (I : PySem.W.InstAt s.heap x ox C od) (hb : PySem.W.Looks (model prog w) s.heap (typeOf b) tb) (hnf : PySem.W.notFirst K C tb = true)
    (hm : PySem.W.mroIn K C (.type "object") = some true) (hn : PySem.W.findIn K (.ref C) "__ne__" = some (some (.builtin "object.__ne__"))) (hs : PySem.W.findIn K (.ref C) "__eq__" = some (some (.ref f))) (hf : PySem.W.isFn K (.ref f) = true)
    (h : wpAny (model prog w) A.in1 (call (.ref f) [.ref x, b]) (fun v s' => ∃ c, v = .bool c ∧ Q (.bool (!c)) s') E s) : wpAny (model prog w) A (richCompare .NotEq (.ref x) b) Q E s := by
  have X := X₀.keeps F0.keep
  have one : wpAny (model prog w) A (tryCompare (.ref x) "__ne__" b) (fun r s' => ∃ v, r = some v ∧ Q v s') E s := by
    unfold tryCompare
    refine wpAny_bind (ifBound_ne X I hn (wpAny_call (codeAny_call_builtin F.cmp_object.ne.plain F.cmpEntry_ne (PySem.W.check_slot F.cmpKind_ne F.cmpSplit_ne (I.type.andThen (PySem.W.looks_mroIn X hm)) (F.cmpArgs_ne _ _)
      (entry_ne (A := A.in1) hu X I hs hf (wpAny_mono h (fun v s' hv => ?_) fun _ _ e => e))))))
    obtain ⟨c, rfl, hq⟩ := hv
    first
      | exact ⟨c, rfl, wpAny_pure ⟨_, rfl, hq⟩⟩
      | exact ⟨c, rfl, _, rfl, hq⟩
  have fin : wpAny (model prog w) A (tryCompare (.ref x) "__ne__" b) (fun r s' => ∃ v, r = some v ∧ Q v s') E s := one
  simp only [richCompare, cmpInfo_NotEq, oneThing_ref]
  refine wpAny_holding (wpAny_bind (wpAny_cRoomFor (Nat.lt_of_succ_lt hu) ?_))
  refine wpAny_bind (I.type.here (wpAny_bind (hb.here ?_)))
  by_cases q : (Value.ref C != tb) = true
  · have e : PySem.W.subIn K tb (.ref C) = some false := by
      rcases Bool.or_eq_true_iff.mp hnf with e | e
      · rw [beq_iff_eq.mp e] at q
        simp at q
      · exact beq_iff_eq.mp e
    rw [if_pos q]
    refine wpAny_bind ((PySem.W.looks_subIn X e).here ?_)
    simp only [Bool.false_eq_true, if_false]
    refine wpAny_bind (wpAny_mono fin (fun r s' z => ?_) fun _ _ e => e)
    obtain ⟨v, rfl, hq⟩ := z
    exact wpAny_pure hq
  · rw [if_neg q]
    refine wpAny_bind (wpAny_pure ?_)
    simp only [Bool.false_eq_true, if_false]
    refine wpAny_bind (wpAny_mono fin (fun r s' z => ?_) fun _ _ e => e)
    obtain ⟨v, rfl, hq⟩ := z
    exact wpAny_pure hq
end
section
variable {X : Cx} {CX : CXT} {C g : Addr} {fd : FuncData} {ps : List Str} {k : Nat} {sp : Sp} {E : XK} {e : Expr} {es : List Expr} {t : TA} {x : Str} {p pos : Pos}
/-- x != y by the own == -/
def rNeA (K : PySem.W.Frag) (C : Addr) (sp : Sp) (E : XK) : R2 := fun x y H Q => ∃ a dx fs ty, x = .ref a ∧ H a = some (.ins C dx fs) ∧ TyX K H y ty ∧ PySem.W.notFirst K C ty = true ∧ sp [x, y] H (fun z H' => ∃ c, z = .bl c ∧ Q (.bl (!c)) H') E
theorem op_neA {K0 : PySem.W.Frag} (hm : PySem.W.mroIn X.K C (.type "object") = some true) (hn : PySem.W.findIn X.K (.ref C) "__ne__" = some (some (.builtin "object.__ne__"))) (hs : PySem.W.findIn X.K (.ref C) "__eq__" = some (some (.ref g))) (hf : PySem.W.isFn X.K (.ref g) = true)
    (F : FnOk X.prog X.w X.K X.mg X.base CX k g fd ps sp) (hr : Room (k + 1) X.A) (hb : Binds X.K fd ps []) (hx : Passes CX X E) (hu : X.A.units + 1 < cLine) (hK : X.K = K0 := by rfl) : OpR X (compareOp .NotEq) (rNeA K0 C sp E) := by
  subst hK
  intro pins s σ H x y v u Q I rx ry h
  obtain ⟨a, dx, fs, ty, rfl, ha, hty, hnf, q⟩ := h
  cases (show v = Value.ref a from rx)
  obtain ⟨mA, O, _⟩ := ins_get I.hok ha
  obtain ⟨od, J, _⟩ := O.look
  obtain ⟨R, kx, kr, _⟩ := kit_of I ry hty
  obtain ⟨m, hF⟩ := I.fr
  show wpAny _ _ (richCompare .NotEq (.ref a) u) _ _ s
  refine ne_KA (tb := ty) hu hF I.ok.mod.kin J (kx.ty _ _ I.kIn kr) hnf hm hn hs hf ?_
  refine wpAny_mono (run_in (us := [.ref a, u]) (ws := [.ref a, y]) F hr.in1 hb I.env0.in1 hx I (.cons rfl (.cons ry .nil)) q) (fun w s' z => ?_) fun _ _ x => x
  obtain ⟨z', H', I', rz, c, ec, qz⟩ := z
  subst ec
  cases (show w = Value.bool c from rz)
  exact ⟨c, rfl, .bl (!c), H', I', rfl, qz⟩
/-- str(x), x an instance whose class has a def for it -/
def rStrI (C : Addr) (sp : Sp) (E : XK) : List V → Hp → VK → Prop := fun xs H Q => ∃ a dx fs, xs = [.ref a] ∧ H a = some (.ins C dx fs) ∧ sp [.ref a] H (fun z H' => ∃ t, z = .str t ∧ Q (.str t) H') E
theorem call_strI (hs : PySem.W.findIn X.K (.ref C) "__str__" = some (some (.ref g))) (hf : PySem.W.isFn X.K (.ref g) = true)
    (F : FnOk X.prog X.w X.K X.mg X.base CX k g fd ps sp) (hr : Room (k + 2) X.A) (hb : Binds X.K fd ps []) (hx : Passes CX X E) (hu : X.A.units + 70 < cLine) : CallR X (.type "str") (rStrI C sp E) := by
  intro pins s σ H xs us Q I r h
  obtain ⟨a, dx, fs, rfl, ha, q⟩ := h
  obtain ⟨u, rfl, rx⟩ := vals1 r
  cases rx
  obtain ⟨mA, O, _⟩ := ins_get I.hok ha
  obtain ⟨od, J, _⟩ := O.look
  refine PySem.W.kso_call (by show X.A.units + 1 + 1 < cLine; omega) I.kIn J hs hf ?_
  refine wpAny_mono (run_in (us := [.ref a]) (ws := [.ref a]) F hr.in1.in1 hb I.env0.in1.in1 hx I (.cons rfl .nil) q) (fun w s' z => ?_) fun _ _ x => x
  obtain ⟨z', H', I', rz, t, et, qz⟩ := z
  subst et
  obtain ⟨tk, rfl⟩ := rz
  exact ⟨.str t, H', I', ⟨_, rfl⟩, qz⟩
end
theorem hu1 {k : Nat} {A : Around} (r : Room k A) : A.units + 1 < cLine := by
  have := hu70 r
  omega
def dNeA (c : String) (cs : List String) (G : List Dat → M Dat) (d e : Dat) : M Dat := fun S => match insD S d, isC c cs S e with
  | some (c1, _), some _ => match decide (c1 = c) with
    | true => (calm (G [d, e]) >>= fun z => M.opt (dB z) >>= fun b => pure (.bl (!b))) S
    | false => .bad
  | _, _ => .bad
theorem r_neA {Z : Cz} {c : String} {cs : List String} {F G : List Dat → M Dat} {E : XK} (A : EqA Z c cs) (V : Via Z 2 F G) : JRD Z (rNeA Z.K (Z.κ c) (spD Z 2 F) E) (dNeA c cs G) := fun x y d e Er H p S Q hx hy s q => by
  unfold dNeA at q
  cases e1 : insD S d with
  | none => simp only [e1] at q; exact q.elim
  | some o1 =>
    cases e2 : isC c cs S e with
    | none => simp only [e1, e2] at q; exact q.elim
    | some b =>
      obtain ⟨c1, f1⟩ := o1
      simp only [e1, e2] at q
      cases eb : decide (c1 = c) with
      | false => rw [eb] at q; exact q.elim
      | true =>
        rw [eb] at q
        have k1 := of_decide_eq_true eb
        subst k1
        obtain ⟨a, dx, vs, rfl, ha⟩ := ins_is s hx e1
        obtain ⟨ty, h1, h2, _⟩ := isC_ty A s hy e2
        refine ⟨a, dx, _, ty, rfl, ha, h1, h2, V Er H p S _ [d, e] _ E rfl (isDs_cons.mpr ⟨_, _, rfl, hx, .one hy⟩) s ?_⟩
        refine (q.bnd xE).mono fun z S1 H1 p1 e1 s1 q1 v hv => ?_
        obtain ⟨bb, ez, q1⟩ := Post.opt q1
        have ez2 : z = .bl bb := by
          cases z <;> first | (cases ez; rfl) | cases ez
        subst ez2
        exact ⟨bb, isD_bl.mp hv, q1 H1 p1 xE.refl s1 _ (isD_bl.mpr rfl)⟩
def strOnly : Dat → Option Str
  | .str z => some z
  | _ => none
def dStrI (c : String) (G : List Dat → M Dat) (ds : List Dat) : M Dat := fun S => match ds with
  | [d] => match insD S d with
    | some (c1, _) => match decide (c1 = c) with
      | true => (calm (G [d]) >>= fun z => M.opt (strOnly z) >>= fun t => pure (.str t)) S
      | false => .bad
    | none => .bad
  | _ => .bad
theorem c_strI {Z : Cz} {c : String} {F G : List Dat → M Dat} {E : XK} (V : Via Z 1 F G) : JC Z (IsDs Z) (IsD Z) (rStrI (Z.κ c) (spD Z 1 F) E) (dStrI c G) := fun x d Er H p S Q hx s q => by
  unfold dStrI at q
  split at q
  · rename_i d
    cases e1 : insD S d with
    | none => simp only [e1] at q; exact q.elim
    | some o1 =>
      obtain ⟨c1, f1⟩ := o1
      simp only [e1] at q
      cases eb : decide (c1 = c) with
      | false => rw [eb] at q; exact q.elim
      | true =>
        rw [eb] at q
        have k1 := of_decide_eq_true eb
        subst k1
        obtain ⟨v, rfl, hv⟩ := isDs_one hx
        obtain ⟨a, dx, vs, rfl, ha⟩ := ins_is s hv e1
        refine ⟨a, dx, _, rfl, ha, V Er H p S _ [d] _ E rfl (.one hv) s ?_⟩
        refine (q.bnd xE).mono fun z S1 H1 p1 e1 s1 q1 v hv => ?_
        obtain ⟨t, ez, q1⟩ := Post.opt q1
        have ez2 : z = .str t := by
          cases z <;> first | (cases ez; rfl) | cases ez
        subst ez2
        exact ⟨t, isD_str.mp hv, q1 H1 p1 xE.refl s1 _ (isD_str.mpr rfl)⟩
  · exact q.elim
end Zd
namespace Zd
open PySem PySem.Spec PyProof.Rows L2 Zg
def top (i : Nat) : Stmt := PySem.Challenge.pw_widerkeys_k10_worlds_told_and_compared.main.body.getD i (.Pass ⟨0, 0, 0, 0⟩)
abbrev s_is_integer : Stmt := (top 9)
abbrev N_is_integer : List Str := ["value"]
abbrev P_is_integer : List Str := ["value"]
theorem sc_is_integer : FnScope N_is_integer P_is_integer (defScope s_is_integer) := ⟨rfl, rfl, rfl, by decide +kernel, rfl, by decide +kernel, by decide +kernel⟩
abbrev s_is_between : Stmt := (top 10)
abbrev N_is_between : List Str := ["value", "low", "high"]
abbrev P_is_between : List Str := ["value", "low", "high"]
theorem sc_is_between : FnScope N_is_between P_is_between (defScope s_is_between) := ⟨rfl, rfl, rfl, by decide +kernel, rfl, by decide +kernel, by decide +kernel⟩
abbrev s_lesser : Stmt := (top 11)
abbrev N_lesser : List Str := ["one", "other"]
abbrev P_lesser : List Str := ["one", "other"]
theorem sc_lesser : FnScope N_lesser P_lesser (defScope s_lesser) := ⟨rfl, rfl, rfl, by decide +kernel, rfl, by decide +kernel, by decide +kernel⟩
abbrev s_greater : Stmt := (top 12)
abbrev N_greater : List Str := ["one", "other"]
abbrev P_greater : List Str := ["one", "other"]
theorem sc_greater : FnScope N_greater P_greater (defScope s_greater) := ⟨rfl, rfl, rfl, by decide +kernel, rfl, by decide +kernel, by decide +kernel⟩
abbrev s_is_name : Stmt := (top 18)
abbrev N_is_name : List Str := ["value"]
abbrev P_is_name : List Str := ["value"]
theorem sc_is_name : FnScope N_is_name P_is_name (defScope s_is_name) := ⟨rfl, rfl, rfl, by decide +kernel, rfl, by decide +kernel, by decide +kernel⟩
abbrev s_is_tuple_of : Stmt := (top 19)
abbrev N_is_tuple_of : List Str := ["value", "least", "most"]
abbrev P_is_tuple_of : List Str := ["value", "least", "most"]
theorem sc_is_tuple_of : FnScope N_is_tuple_of P_is_tuple_of (defScope s_is_tuple_of) := ⟨rfl, rfl, rfl, by decide +kernel, rfl, by decide +kernel, by decide +kernel⟩
abbrev s_is_ascending : Stmt := (top 20)
abbrev N_is_ascending : List Str := ["items", "one", "other"]
abbrev P_is_ascending : List Str := ["items"]
theorem sc_is_ascending : FnScope N_is_ascending P_is_ascending (defScope s_is_ascending) := ⟨rfl, rfl, rfl, by decide +kernel, rfl, by decide +kernel, by decide +kernel⟩
abbrev s_Kind___init__ : Stmt := (inClass (top 24) 0)
abbrev N_Kind___init__ : List Str := ["self", "low", "high"]
abbrev P_Kind___init__ : List Str := ["self", "low", "high"]
theorem sc_Kind___init__ : FnScope N_Kind___init__ P_Kind___init__ (defScope s_Kind___init__) := ⟨rfl, rfl, rfl, by decide +kernel, rfl, by decide +kernel, by decide +kernel⟩
abbrev s_Kind___le__ : Stmt := (inClass (top 24) 8)
abbrev N_Kind___le__ : List Str := ["self", "other"]
abbrev P_Kind___le__ : List Str := ["self", "other"]
theorem sc_Kind___le__ : FnScope N_Kind___le__ P_Kind___le__ (defScope s_Kind___le__) := ⟨rfl, rfl, rfl, by decide +kernel, rfl, by decide +kernel, by decide +kernel⟩
abbrev s_Kind___eq__ : Stmt := (inClass (top 24) 7)
abbrev N_Kind___eq__ : List Str := ["self", "other"]
abbrev P_Kind___eq__ : List Str := ["self", "other"]
theorem sc_Kind___eq__ : FnScope N_Kind___eq__ P_Kind___eq__ (defScope s_Kind___eq__) := ⟨rfl, rfl, rfl, by decide +kernel, rfl, by decide +kernel, by decide +kernel⟩
abbrev s_Kind___lt__ : Stmt := (inClass (top 24) 9)
abbrev N_Kind___lt__ : List Str := ["self", "other"]
abbrev P_Kind___lt__ : List Str := ["self", "other"]
theorem sc_Kind___lt__ : FnScope N_Kind___lt__ P_Kind___lt__ (defScope s_Kind___lt__) := ⟨rfl, rfl, rfl, by decide +kernel, rfl, by decide +kernel, by decide +kernel⟩
abbrev s__are_kinds : Stmt := (top 35)
abbrev N__are_kinds : List Str := ["narrow", "wide"]
abbrev P__are_kinds : List Str := ["narrow", "wide"]
theorem sc__are_kinds : FnScope N__are_kinds P__are_kinds (defScope s__are_kinds) := ⟨rfl, rfl, rfl, by decide +kernel, rfl, by decide +kernel, by decide +kernel⟩
abbrev s__are_columns : Stmt := (top 36)
abbrev N__are_columns : List Str := ["columns", "column"]
abbrev P__are_columns : List Str := ["columns"]
theorem sc__are_columns : FnScope N__are_columns P__are_columns (defScope s__are_columns) := ⟨rfl, rfl, rfl, by decide +kernel, rfl, by decide +kernel, by decide +kernel⟩
abbrev s__are_rows : Stmt := (top 40)
abbrev N__are_rows : List Str := ["columns", "value", "many", "row"]
abbrev P__are_rows : List Str := ["columns", "value", "many"]
theorem sc__are_rows : FnScope N__are_rows P__are_rows (defScope s__are_rows) := ⟨rfl, rfl, rfl, by decide +kernel, rfl, by decide +kernel, by decide +kernel⟩
abbrev s__is_read : Stmt := (top 41)
abbrev N__is_read : List Str := ["row", "_", "side", "deeds", "deed"]
abbrev P__is_read : List Str := ["row"]
theorem sc__is_read : FnScope N__is_read P__is_read (defScope s__is_read) := ⟨rfl, rfl, rfl, by decide +kernel, rfl, by decide +kernel, by decide +kernel⟩
abbrev s__is_write : Stmt := (top 42)
abbrev N__is_write : List Str := ["sources", "row", "column", "how", "rule", "source", "pace"]
abbrev P__is_write : List Str := ["sources", "row"]
theorem sc__is_write : FnScope N__is_write P__is_write (defScope s__is_write) := ⟨rfl, rfl, rfl, by decide +kernel, rfl, by decide +kernel, by decide +kernel⟩
abbrev s__is_edition : Stmt := (top 39)
abbrev N__is_edition : List Str := ["columns", "value", "sight", "reads", "writes", "sources", "row"]
abbrev P__is_edition : List Str := ["columns", "value"]
theorem sc__is_edition : FnScope N__is_edition P__is_edition (defScope s__is_edition) := ⟨rfl, rfl, rfl, by decide +kernel, rfl, by decide +kernel, by decide +kernel⟩
abbrev s__is_first_edition : Stmt := (top 43)
abbrev N__is_first_edition : List Str := ["edition", "_", "reads", "writes", "row"]
abbrev P__is_first_edition : List Str := ["edition"]
theorem sc__is_first_edition : FnScope N__is_first_edition P__is_first_edition (defScope s__is_first_edition) := ⟨rfl, rfl, rfl, by decide +kernel, rfl, by decide +kernel, by decide +kernel⟩
abbrev s__is_program : Stmt := (top 38)
abbrev N__is_program : List Str := ["columns", "value", "name", "editions", "edition"]
abbrev P__is_program : List Str := ["columns", "value"]
theorem sc__is_program : FnScope N__is_program P__is_program (defScope s__is_program) := ⟨rfl, rfl, rfl, by decide +kernel, rfl, by decide +kernel, by decide +kernel⟩
abbrev s__many_in_two_events : Stmt := (top 44)
abbrev N__many_in_two_events : List Str := ["programs", "many", "_", "editions", "writes", "row"]
abbrev P__many_in_two_events : List Str := ["programs"]
theorem sc__many_in_two_events : FnScope N__many_in_two_events P__many_in_two_events (defScope s__many_in_two_events) := ⟨rfl, rfl, rfl, by decide +kernel, rfl, by decide +kernel, by decide +kernel⟩
abbrev s__are_programs : Stmt := (top 37)
abbrev N__are_programs : List Str := ["columns", "programs", "program", "name", "_"]
abbrev P__are_programs : List Str := ["columns", "programs"]
theorem sc__are_programs : FnScope N__are_programs P__are_programs (defScope s__are_programs) := ⟨rfl, rfl, rfl, by decide +kernel, rfl, by decide +kernel, by decide +kernel⟩
abbrev s_World___init__ : Stmt := (inClass (top 34) 0)
abbrev N_World___init__ : List Str := ["self", "narrow", "wide", "columns", "programs", "fits"]
abbrev P_World___init__ : List Str := ["self", "narrow", "wide", "columns", "programs"]
theorem sc_World___init__ : FnScope N_World___init__ P_World___init__ (defScope s_World___init__) := ⟨rfl, rfl, rfl, by decide +kernel, rfl, by decide +kernel, by decide +kernel⟩
abbrev s__law_take : Stmt := (top 47)
abbrev N__law_take : List Str := ["_law_pot_here", "_law_upto", "_law_digit", "_law_prime", "_law_mixed"]
abbrev P__law_take : List Str := ["_law_pot_here", "_law_upto"]
theorem sc__law_take : FnScope N__law_take P__law_take (defScope s__law_take) := ⟨rfl, rfl, rfl, by decide +kernel, rfl, by decide +kernel, by decide +kernel⟩
abbrev s__law_of : Stmt := (top 48)
abbrev N__law_of : List Str := ["_law_pot_here", "_law_some"]
abbrev P__law_of : List Str := ["_law_pot_here", "_law_some"]
theorem sc__law_of : FnScope N__law_of P__law_of (defScope s__law_of) := ⟨rfl, rfl, rfl, by decide +kernel, rfl, by decide +kernel, by decide +kernel⟩
abbrev s_World___eq__ : Stmt := (inClass (top 34) 1)
abbrev N_World___eq__ : List Str := ["self", "other"]
abbrev P_World___eq__ : List Str := ["self", "other"]
theorem sc_World___eq__ : FnScope N_World___eq__ P_World___eq__ (defScope s_World___eq__) := ⟨rfl, rfl, rfl, by decide +kernel, rfl, by decide +kernel, by decide +kernel⟩
abbrev s_Kind___str__ : Stmt := (inClass (top 24) 14)
abbrev N_Kind___str__ : List Str := ["self"]
abbrev P_Kind___str__ : List Str := ["self"]
theorem sc_Kind___str__ : FnScope N_Kind___str__ P_Kind___str__ (defScope s_Kind___str__) := ⟨rfl, rfl, rfl, by decide +kernel, rfl, by decide +kernel, by decide +kernel⟩
abbrev s__law_pot : Stmt := (top 46)
abbrev N__law_pot : List Str := ["_law_script", "_law_k", "_law_cell", "_law_own"]
abbrev P__law_pot : List Str := ["_law_script", "_law_k"]
theorem sc__law_pot : FnScope N__law_pot P__law_pot (defScope s__law_pot) := ⟨rfl, rfl, rfl, by decide +kernel, rfl, by decide +kernel, by decide +kernel⟩
abbrev s__law_names : Stmt := (top 49)
abbrev N__law_names : List Str := ["_law_pot_here", "_law_many", "_law_small", "_law_stem", "_law_spot", "_law_at", "_law_turn", "_law_k"]
abbrev P__law_names : List Str := ["_law_pot_here", "_law_many"]
theorem sc__law_names : FnScope N__law_names P__law_names (defScope s__law_names) := ⟨rfl, rfl, rfl, by decide +kernel, rfl, by decide +kernel, by decide +kernel⟩
abbrev s__law_kinds : Stmt := (top 50)
abbrev N__law_kinds : List Str := ["_law_pot_here", "_law_low", "_law_size", "_law_high", "_law_more"]
abbrev P__law_kinds : List Str := ["_law_pot_here"]
theorem sc__law_kinds : FnScope N__law_kinds P__law_kinds (defScope s__law_kinds) := ⟨rfl, rfl, rfl, by decide +kernel, rfl, by decide +kernel, by decide +kernel⟩
abbrev s__law_reads : Stmt := (top 51)
abbrev N__law_reads : List Str := ["_law_pot_here", "_law_columns", "_law_sides", "_law_found", "_law_column", "_law_side", "_law_bits", "_law_deeds", "_law_at", "_law_deed"]
abbrev P__law_reads : List Str := ["_law_pot_here", "_law_columns", "_law_sides"]
theorem sc__law_reads : FnScope N__law_reads P__law_reads (defScope s__law_reads) := ⟨rfl, rfl, rfl, by decide +kernel, rfl, by decide +kernel, by decide +kernel⟩
abbrev s__law_writes : Stmt := (top 52)
abbrev N__law_writes : List Str := ["_law_pot_here", "_law_columns", "_law_reads_here", "_law_hows", "_law_lore", "_law_found", "_law_column", "_law_how", "_law_rule", "_law_sources", "_law_source", "_law_row"]
abbrev P__law_writes : List Str := ["_law_pot_here", "_law_columns", "_law_reads_here", "_law_hows", "_law_lore"]
theorem sc__law_writes : FnScope N__law_writes P__law_writes (defScope s__law_writes) := ⟨rfl, rfl, rfl, by decide +kernel, rfl, by decide +kernel, by decide +kernel⟩
abbrev s__law_edition : Stmt := (top 53)
abbrev N__law_edition : List Str := ["_law_pot_here", "_law_lore", "_law_number", "_law_hows", "_law_sides", "_law_sight", "_law_reads_here"]
abbrev P__law_edition : List Str := ["_law_pot_here", "_law_lore", "_law_number"]
theorem sc__law_edition : FnScope N__law_edition P__law_edition (defScope s__law_edition) := ⟨rfl, rfl, rfl, by decide +kernel, rfl, by decide +kernel, by decide +kernel⟩
abbrev s__law_world : Stmt := (top 54)
abbrev N__law_world : List Str := ["_law_pot_here", "_law_most", "_law_narrow", "_law_wide", "_law_lore", "_law_programs", "_law_name", "_law_many", "_law_number"]
abbrev P__law_world : List Str := ["_law_pot_here", "_law_most"]
theorem sc__law_world : FnScope N__law_world P__law_world (defScope s__law_world) := ⟨rfl, rfl, rfl, by decide +kernel, rfl, by decide +kernel, by decide +kernel⟩
abbrev s__law_ends : Stmt := (top 55)
abbrev N__law_ends : List Str := ["_law_kind"]
abbrev P__law_ends : List Str := ["_law_kind"]
theorem sc__law_ends : FnScope N__law_ends P__law_ends (defScope s__law_ends) := ⟨rfl, rfl, rfl, by decide +kernel, rfl, by decide +kernel, by decide +kernel⟩
abbrev s__law_others : Stmt := (top 56)
abbrev N__law_others : List Str := ["_law_lore", "_law_narrow", "_law_wide", "_law_columns", "_law_programs", "_law_some", "_law_twice", "_law_name", "_law_editions", "_law_spare", "_law_sight", "_law_reads_here", "_law_writes_here", "_law_other", "_law_turned", "_law_more", "_law_many", "_law_sign"]
abbrev P__law_others : List Str := ["_law_lore"]
theorem sc__law_others : FnScope N__law_others P__law_others (defScope s__law_others) := ⟨rfl, rfl, rfl, by decide +kernel, rfl, by decide +kernel, by decide +kernel⟩
abbrev s__law_late : Stmt := (top 57)
abbrev N__law_late : List Str := ["_law_programs", "_law_found", "_law_name", "_law_editions", "_law_one", "_law_row"]
abbrev P__law_late : List Str := ["_law_programs"]
theorem sc__law_late : FnScope N__law_late P__law_late (defScope s__law_late) := ⟨rfl, rfl, rfl, by decide +kernel, rfl, by decide +kernel, by decide +kernel⟩
abbrev s__law_made : Stmt := (top 58)
abbrev N__law_made : List Str := ["_law_parts", "_law_narrow", "_law_wide", "_law_columns", "_law_programs"]
abbrev P__law_made : List Str := ["_law_parts"]
theorem sc__law_made : FnScope N__law_made P__law_made (defScope s__law_made) := ⟨rfl, rfl, rfl, by decide +kernel, rfl, by decide +kernel, by decide +kernel⟩
abbrev s__law_right : Stmt := (top 59)
abbrev N__law_right : List Str := ["_law_pot_here", "_law_lore", "_law_world_here", "_law_parts", "_law_told", "_law_second", "_law_other", "_law_some", "_law_one"]
abbrev P__law_right : List Str := ["_law_pot_here"]
theorem sc__law_right : FnScope N__law_right P__law_right (defScope s__law_right) := ⟨rfl, rfl, rfl, by decide +kernel, rfl, by decide +kernel, by decide +kernel⟩
abbrev s_law : Stmt := (top 60)
abbrev N_law : List Str := ["_law_script", "_law_k", "_law_pot_here", "_law_turn"]
abbrev P_law : List Str := ["_law_script"]
theorem sc_law : FnScope N_law P_law (defScope s_law) := ⟨rfl, rfl, rfl, by decide +kernel, rfl, by decide +kernel, by decide +kernel⟩
end Zd
namespace Zd
open PySem PySem.Spec PyProof.Rows L2 Zg
def dd0 : He.DefD := ⟨("is_integer", none), "is_integer", "is_integer", defArgs s_is_integer, defBody s_is_integer, defScope s_is_integer, [], []⟩
def dd1 : He.DefD := ⟨("is_between", none), "is_between", "is_between", defArgs s_is_between, defBody s_is_between, defScope s_is_between, [], []⟩
def dd2 : He.DefD := ⟨("lesser", none), "lesser", "lesser", defArgs s_lesser, defBody s_lesser, defScope s_lesser, [], []⟩
def dd3 : He.DefD := ⟨("greater", none), "greater", "greater", defArgs s_greater, defBody s_greater, defScope s_greater, [], []⟩
def dd4 : He.DefD := ⟨("is_name", none), "is_name", "is_name", defArgs s_is_name, defBody s_is_name, defScope s_is_name, [], []⟩
def dd5 : He.DefD := ⟨("is_tuple_of", none), "is_tuple_of", "is_tuple_of", defArgs s_is_tuple_of, defBody s_is_tuple_of, defScope s_is_tuple_of, [], []⟩
def dd6 : He.DefD := ⟨("is_ascending", none), "is_ascending", "is_ascending", defArgs s_is_ascending, defBody s_is_ascending, defScope s_is_ascending, [], []⟩
def dd7 : He.DefD := ⟨("Kind", some "__init__"), "__init__", "Kind.__init__", defArgs s_Kind___init__, defBody s_Kind___init__, defScope s_Kind___init__, [], []⟩
def dd8 : He.DefD := ⟨("Kind", some "__eq__"), "__eq__", "Kind.__eq__", defArgs s_Kind___eq__, defBody s_Kind___eq__, defScope s_Kind___eq__, [], []⟩
def dd9 : He.DefD := ⟨("Kind", some "__le__"), "__le__", "Kind.__le__", defArgs s_Kind___le__, defBody s_Kind___le__, defScope s_Kind___le__, [], []⟩
def dd10 : He.DefD := ⟨("Kind", some "__lt__"), "__lt__", "Kind.__lt__", defArgs s_Kind___lt__, defBody s_Kind___lt__, defScope s_Kind___lt__, [], []⟩
def dd11 : He.DefD := ⟨("Kind", some "__str__"), "__str__", "Kind.__str__", defArgs s_Kind___str__, defBody s_Kind___str__, defScope s_Kind___str__, [], []⟩
def dd12 : He.DefD := ⟨("World", some "__init__"), "__init__", "World.__init__", defArgs s_World___init__, defBody s_World___init__, defScope s_World___init__, [], []⟩
def dd13 : He.DefD := ⟨("World", some "__eq__"), "__eq__", "World.__eq__", defArgs s_World___eq__, defBody s_World___eq__, defScope s_World___eq__, [], []⟩
def dd14 : He.DefD := ⟨("_are_kinds", none), "_are_kinds", "_are_kinds", defArgs s__are_kinds, defBody s__are_kinds, defScope s__are_kinds, [], []⟩
def dd15 : He.DefD := ⟨("_are_columns", none), "_are_columns", "_are_columns", defArgs s__are_columns, defBody s__are_columns, defScope s__are_columns, [], []⟩
def dd16 : He.DefD := ⟨("_are_programs", none), "_are_programs", "_are_programs", defArgs s__are_programs, defBody s__are_programs, defScope s__are_programs, [], []⟩
def dd17 : He.DefD := ⟨("_is_program", none), "_is_program", "_is_program", defArgs s__is_program, defBody s__is_program, defScope s__is_program, [], []⟩
def dd18 : He.DefD := ⟨("_is_edition", none), "_is_edition", "_is_edition", defArgs s__is_edition, defBody s__is_edition, defScope s__is_edition, [], []⟩
def dd19 : He.DefD := ⟨("_are_rows", none), "_are_rows", "_are_rows", defArgs s__are_rows, defBody s__are_rows, defScope s__are_rows, [], []⟩
def dd20 : He.DefD := ⟨("_is_read", none), "_is_read", "_is_read", defArgs s__is_read, defBody s__is_read, defScope s__is_read, [], []⟩
def dd21 : He.DefD := ⟨("_is_write", none), "_is_write", "_is_write", defArgs s__is_write, defBody s__is_write, defScope s__is_write, [], []⟩
def dd22 : He.DefD := ⟨("_is_first_edition", none), "_is_first_edition", "_is_first_edition", defArgs s__is_first_edition, defBody s__is_first_edition, defScope s__is_first_edition, [], []⟩
def dd23 : He.DefD := ⟨("_many_in_two_events", none), "_many_in_two_events", "_many_in_two_events", defArgs s__many_in_two_events, defBody s__many_in_two_events, defScope s__many_in_two_events, [], []⟩
def dd24 : He.DefD := ⟨("_law_pot", none), "_law_pot", "_law_pot", defArgs s__law_pot, defBody s__law_pot, defScope s__law_pot, [], []⟩
def dd25 : He.DefD := ⟨("_law_take", none), "_law_take", "_law_take", defArgs s__law_take, defBody s__law_take, defScope s__law_take, [], []⟩
def dd26 : He.DefD := ⟨("_law_of", none), "_law_of", "_law_of", defArgs s__law_of, defBody s__law_of, defScope s__law_of, [], []⟩
def dd27 : He.DefD := ⟨("_law_names", none), "_law_names", "_law_names", defArgs s__law_names, defBody s__law_names, defScope s__law_names, [], []⟩
def dd28 : He.DefD := ⟨("_law_kinds", none), "_law_kinds", "_law_kinds", defArgs s__law_kinds, defBody s__law_kinds, defScope s__law_kinds, [], []⟩
def dd29 : He.DefD := ⟨("_law_reads", none), "_law_reads", "_law_reads", defArgs s__law_reads, defBody s__law_reads, defScope s__law_reads, [], []⟩
def dd30 : He.DefD := ⟨("_law_writes", none), "_law_writes", "_law_writes", defArgs s__law_writes, defBody s__law_writes, defScope s__law_writes, [], []⟩
def dd31 : He.DefD := ⟨("_law_edition", none), "_law_edition", "_law_edition", defArgs s__law_edition, defBody s__law_edition, defScope s__law_edition, [], []⟩
def dd32 : He.DefD := ⟨("_law_world", none), "_law_world", "_law_world", defArgs s__law_world, defBody s__law_world, defScope s__law_world, [], []⟩
def dd33 : He.DefD := ⟨("_law_ends", none), "_law_ends", "_law_ends", defArgs s__law_ends, defBody s__law_ends, defScope s__law_ends, [], []⟩
def dd34 : He.DefD := ⟨("_law_others", none), "_law_others", "_law_others", defArgs s__law_others, defBody s__law_others, defScope s__law_others, [], []⟩
def dd35 : He.DefD := ⟨("_law_late", none), "_law_late", "_law_late", defArgs s__law_late, defBody s__law_late, defScope s__law_late, [], []⟩
def dd36 : He.DefD := ⟨("_law_made", none), "_law_made", "_law_made", defArgs s__law_made, defBody s__law_made, defScope s__law_made, [], []⟩
def dd37 : He.DefD := ⟨("_law_right", none), "_law_right", "_law_right", defArgs s__law_right, defBody s__law_right, defScope s__law_right, [], []⟩
def dd38 : He.DefD := ⟨("law", none), "law", "law", defArgs s_law, defBody s_law, defScope s_law, [], []⟩
def fnl0 : List He.DefD := [dd0, dd1, dd2, dd3, dd4, dd5, dd6, dd7, dd8, dd9, dd10, dd11, dd12, dd13, dd14, dd15, dd16, dd17, dd18, dd19, dd20, dd21, dd22, dd23, dd24, dd25, dd26, dd27, dd28, dd29, dd30, dd31, dd32, dd33, dd34, dd35, dd36, dd37, dd38]
def fnl : List He.DefD := fnl0
def tsl : List He.Tab := []
def exl0 (K : PySem.W.Frag) : Bool := decide (PySem.W.nsIn K mainGlobals "World" = some (some (.ref (He.ga K "World")))) && (PySem.W.plainGet K (He.ga K "World") Str.empty && (PySem.W.hasDictIn K (He.ga K "World") && (PySem.W.plainOver K (He.ga K "World") && (decide (PySem.W.findIn K (.ref (He.ga K "World")) "__setattr__" = some (some (.builtin "object.__setattr__"))) && (PySem.W.makesIn K (He.ga K "World") && (PySem.W.keepIn K (.ref (He.ga K "World")) && (decide (PySem.W.findIn K (.ref (He.ga K "World")) "__class__" = some (some (.builtin "object.__class__"))) && (decide (PySem.W.mroIn K (He.ga K "World") (.type "object") = some true) && (decide (PySem.W.findIn K (.ref (He.ga K "World")) "narrow" = some none) && (decide (PySem.W.findIn K (.ref (He.ga K "World")) "wide" = some none) && (decide (PySem.W.findIn K (.ref (He.ga K "World")) "columns" = some none) && (decide (PySem.W.findIn K (.ref (He.ga K "World")) "programs" = some none) && (decide (PySem.W.nsIn K mainGlobals "Kind" = some (some (.ref (He.ga K "Kind")))) && (PySem.W.plainGet K (He.ga K "Kind") Str.empty && (PySem.W.hasDictIn K (He.ga K "Kind") && (PySem.W.plainOver K (He.ga K "Kind") && (decide (PySem.W.findIn K (.ref (He.ga K "Kind")) "__setattr__" = some (some (.builtin "object.__setattr__"))) && (PySem.W.makesIn K (He.ga K "Kind") && (PySem.W.keepIn K (.ref (He.ga K "Kind")))))))))))))))))))))
def exl1 (K : PySem.W.Frag) : Bool := decide (PySem.W.findIn K (.ref (He.ga K "Kind")) "__class__" = some (some (.builtin "object.__class__"))) && (decide (PySem.W.mroIn K (He.ga K "Kind") (.type "object") = some true) && (decide (PySem.W.findIn K (.ref (He.ga K "Kind")) "low" = some none) && (decide (PySem.W.findIn K (.ref (He.ga K "Kind")) "high" = some none) && (decide (PySem.W.findIn K (.ref (He.ga K "Kind")) "size" = some none) && (numB K "MOST_LETTERS" 8 && (numB K "LEAST_NARROW" 16 && (numB K "MOST_PACE" 99 && (numB K "MOST_IN_TWO_EVENTS" 2 && (decide (PySem.W.nsIn K mainGlobals "SIDES" = some (some (.ref (He.ga K "SIDES")))) && (decide (tupW K (He.ga K "SIDES") = some (["narrow", "wide"] : List Str)) && (decide (PySem.W.nsIn K mainGlobals "RULES" = some (some (.ref (He.ga K "RULES")))) && (decide (tupW K (He.ga K "RULES") = some (["cut", "empty", "refuse"] : List Str)) && (decide (PySem.W.nsIn K mainGlobals "DEEDS" = some (some (.ref (He.ga K "DEEDS")))) && (decide (tupW K (He.ga K "DEEDS") = some (["match", "order", "show"] : List Str)) && (decide (PySem.W.nsIn K mainGlobals "READ_SIDES" = some (some (.ref (He.ga K "READ_SIDES")))) && (decide (tupW K (He.ga K "READ_SIDES") = some (["narrow", "wide", "either"] : List Str)) && (decide (PySem.W.nsIn K mainGlobals "HOWS" = some (some (.ref (He.ga K "HOWS")))) && (decide (tupW K (He.ga K "HOWS") = some (["narrow", "wide", "both", "narrow first", "wide first"] : List Str)) && (decide (PySem.W.nsIn K mainGlobals "IN_TWO_EVENTS" = some (some (.ref (He.ga K "IN_TWO_EVENTS")))))))))))))))))))))))
def exl2 (K : PySem.W.Frag) : Bool := decide (tupW K (He.ga K "IN_TWO_EVENTS") = some (["narrow first", "wide first"] : List Str)) && (decide (PySem.W.nsIn K mainGlobals "dict" = some none) && (decide (PySem.W.specialIn K (.builtin "object.__class__") "__get__" = some (some (.builtin "getset_descriptor.__get__"))) && (decide (PySem.W.takesIn K (.builtin "object.__class__") = some true) && (decide (PySem.W.nsIn K mainGlobals "sorted" = some none) && (PySem.W.notFirst K (He.ga K "World") (.type "NoneType") && (PySem.W.notFirst K (He.ga K "World") (.type "bool") && (PySem.W.notFirst K (He.ga K "World") (.type "int") && (PySem.W.notFirst K (He.ga K "World") (.type "str") && (PySem.W.notFirst K (He.ga K "World") (.type "list") && (PySem.W.notFirst K (He.ga K "World") (.type "tuple") && (PySem.W.notFirst K (He.ga K "World") (.type "dict") && (decide (PySem.W.kitOne K (.type "NoneType") (.ref (He.ga K "World")) = some false) && (decide (PySem.W.kitOne K (.type "bool") (.ref (He.ga K "World")) = some false) && (decide (PySem.W.kitOne K (.type "int") (.ref (He.ga K "World")) = some false) && (decide (PySem.W.kitOne K (.type "str") (.ref (He.ga K "World")) = some false) && (decide (PySem.W.kitOne K (.type "list") (.ref (He.ga K "World")) = some false) && (decide (PySem.W.kitOne K (.type "tuple") (.ref (He.ga K "World")) = some false) && (decide (PySem.W.kitOne K (.type "dict") (.ref (He.ga K "World")) = some false) && (PySem.W.notFirst K (He.ga K "World") (.ref (He.ga K "World")))))))))))))))))))))
def exl3 (K : PySem.W.Frag) : Bool := decide (PySem.W.findIn K (.ref (He.ga K "World")) "__ne__" = some (some (.builtin "object.__ne__"))) && (PySem.W.notFirst K (He.ga K "World") (.ref (He.ga K "Kind")) && (decide (PySem.W.kitOne K (.ref (He.ga K "Kind")) (.ref (He.ga K "World")) = some false) && (decide (PySem.W.nsIn K mainGlobals "is_integer" = some (some (.ref (He.ga K "is_integer")))) && (decide (PySem.W.nsIn K mainGlobals "is_between" = some (some (.ref (He.ga K "is_between")))) && (decide (PySem.W.nsIn K mainGlobals "lesser" = some (some (.ref (He.ga K "lesser")))) && (decide (PySem.W.nsIn K mainGlobals "greater" = some (some (.ref (He.ga K "greater")))) && (decide (PySem.W.nsIn K mainGlobals "is_name" = some (some (.ref (He.ga K "is_name")))) && (decide (PySem.W.nsIn K mainGlobals "is_tuple_of" = some (some (.ref (He.ga K "is_tuple_of")))) && (decide (PySem.W.nsIn K mainGlobals "is_ascending" = some (some (.ref (He.ga K "is_ascending")))) && (decide (PySem.W.findIn K (.ref (He.ga K "Kind")) "__init__" = some (some (.ref (He.ma K (He.ga K "Kind") "__init__")))) && (PySem.W.isFn K (.ref (He.ma K (He.ga K "Kind") "__init__")) && (decide (PySem.W.findIn K (.ref (He.ga K "Kind")) "__eq__" = some (some (.ref (He.ma K (He.ga K "Kind") "__eq__")))) && (PySem.W.isFn K (.ref (He.ma K (He.ga K "Kind") "__eq__")) && (decide (PySem.W.findIn K (.ref (He.ga K "Kind")) "__le__" = some (some (.ref (He.ma K (He.ga K "Kind") "__le__")))) && (PySem.W.isFn K (.ref (He.ma K (He.ga K "Kind") "__le__")) && (decide (PySem.W.findIn K (.ref (He.ga K "Kind")) "__lt__" = some (some (.ref (He.ma K (He.ga K "Kind") "__lt__")))) && (PySem.W.isFn K (.ref (He.ma K (He.ga K "Kind") "__lt__")) && (decide (PySem.W.findIn K (.ref (He.ga K "Kind")) "__str__" = some (some (.ref (He.ma K (He.ga K "Kind") "__str__")))) && (PySem.W.isFn K (.ref (He.ma K (He.ga K "Kind") "__str__")))))))))))))))))))))
def exl4 (K : PySem.W.Frag) : Bool := decide (PySem.W.findIn K (.ref (He.ga K "World")) "__init__" = some (some (.ref (He.ma K (He.ga K "World") "__init__")))) && (PySem.W.isFn K (.ref (He.ma K (He.ga K "World") "__init__")) && (decide (PySem.W.findIn K (.ref (He.ga K "World")) "__eq__" = some (some (.ref (He.ma K (He.ga K "World") "__eq__")))) && (PySem.W.isFn K (.ref (He.ma K (He.ga K "World") "__eq__")) && (decide (PySem.W.nsIn K mainGlobals "_are_kinds" = some (some (.ref (He.ga K "_are_kinds")))) && (decide (PySem.W.nsIn K mainGlobals "_are_columns" = some (some (.ref (He.ga K "_are_columns")))) && (decide (PySem.W.nsIn K mainGlobals "_are_programs" = some (some (.ref (He.ga K "_are_programs")))) && (decide (PySem.W.nsIn K mainGlobals "_is_program" = some (some (.ref (He.ga K "_is_program")))) && (decide (PySem.W.nsIn K mainGlobals "_is_edition" = some (some (.ref (He.ga K "_is_edition")))) && (decide (PySem.W.nsIn K mainGlobals "_are_rows" = some (some (.ref (He.ga K "_are_rows")))) && (decide (PySem.W.nsIn K mainGlobals "_is_read" = some (some (.ref (He.ga K "_is_read")))) && (decide (PySem.W.nsIn K mainGlobals "_is_write" = some (some (.ref (He.ga K "_is_write")))) && (decide (PySem.W.nsIn K mainGlobals "_is_first_edition" = some (some (.ref (He.ga K "_is_first_edition")))) && (decide (PySem.W.nsIn K mainGlobals "_many_in_two_events" = some (some (.ref (He.ga K "_many_in_two_events")))) && (decide (PySem.W.nsIn K mainGlobals "_law_pot" = some (some (.ref (He.ga K "_law_pot")))) && (decide (PySem.W.nsIn K mainGlobals "_law_take" = some (some (.ref (He.ga K "_law_take")))) && (decide (PySem.W.nsIn K mainGlobals "_law_of" = some (some (.ref (He.ga K "_law_of")))) && (decide (PySem.W.nsIn K mainGlobals "_law_names" = some (some (.ref (He.ga K "_law_names")))) && (decide (PySem.W.nsIn K mainGlobals "_law_kinds" = some (some (.ref (He.ga K "_law_kinds")))) && (decide (PySem.W.nsIn K mainGlobals "_law_reads" = some (some (.ref (He.ga K "_law_reads")))))))))))))))))))))))
def exl5 (K : PySem.W.Frag) : Bool := decide (PySem.W.nsIn K mainGlobals "_law_writes" = some (some (.ref (He.ga K "_law_writes")))) && (decide (PySem.W.nsIn K mainGlobals "_law_edition" = some (some (.ref (He.ga K "_law_edition")))) && (decide (PySem.W.nsIn K mainGlobals "_law_world" = some (some (.ref (He.ga K "_law_world")))) && (decide (PySem.W.nsIn K mainGlobals "_law_ends" = some (some (.ref (He.ga K "_law_ends")))) && (decide (PySem.W.nsIn K mainGlobals "_law_others" = some (some (.ref (He.ga K "_law_others")))) && (decide (PySem.W.nsIn K mainGlobals "_law_late" = some (some (.ref (He.ga K "_law_late")))) && (decide (PySem.W.nsIn K mainGlobals "_law_made" = some (some (.ref (He.ga K "_law_made")))) && (decide (PySem.W.nsIn K mainGlobals "_law_right" = some (some (.ref (He.ga K "_law_right")))) && (decide (PySem.W.nsIn K mainGlobals "law" = some (some (.ref (He.ga K "law")))) && (decide (PySem.W.nsIn K mainGlobals "int" = some none) && (decide (PySem.W.nsIn K mainGlobals "len" = some none) && (decide (PySem.W.nsIn K mainGlobals "abs" = some none) && (decide (PySem.W.nsIn K mainGlobals "bool" = some none) && (decide (PySem.W.nsIn K mainGlobals "tuple" = some none) && (decide (PySem.W.nsIn K mainGlobals "isinstance" = some none) && (decide (PySem.W.nsIn K mainGlobals "range" = some none) && (decide (PySem.W.nsIn K mainGlobals "max" = some none) && (decide (PySem.W.nsIn K mainGlobals "min" = some none) && (decide (PySem.W.nsIn K mainGlobals "all" = some none) && (decide (PySem.W.nsIn K mainGlobals "repr" = some none))))))))))))))))))))
def exl6 (K : PySem.W.Frag) : Bool := decide (PySem.W.nsIn K mainGlobals "str" = some none) && (decide (PySem.W.nsIn K mainGlobals "any" = some none) && (decide (PySem.W.nsIn K mainGlobals "list" = some none) && (decide (PySem.W.nsIn K mainGlobals "zip" = some none) && (decide (PySem.W.nsIn K mainGlobals "enumerate" = some none)))))
def exl (K : PySem.W.Frag) : Bool := exl0 K && (exl1 K && (exl2 K && (exl3 K && (exl4 K && (exl5 K && (exl6 K))))))
theorem exg0 {K : PySem.W.Frag} (h : exl K = true) : exl0 K = true := (He.ba h).1
theorem ex_0 {K : PySem.W.Frag} (h : exl K = true) : (decide (PySem.W.nsIn K mainGlobals "World" = some (some (.ref (He.ga K "World"))))) = true := (He.ba (exg0 h)).1
theorem ex_1 {K : PySem.W.Frag} (h : exl K = true) : (PySem.W.plainGet K (He.ga K "World") Str.empty) = true := (He.ba (He.ba (exg0 h)).2).1
theorem ex_2 {K : PySem.W.Frag} (h : exl K = true) : (PySem.W.hasDictIn K (He.ga K "World")) = true := (He.ba (He.ba (He.ba (exg0 h)).2).2).1
theorem ex_3 {K : PySem.W.Frag} (h : exl K = true) : (PySem.W.plainOver K (He.ga K "World")) = true := (He.ba (He.ba (He.ba (He.ba (exg0 h)).2).2).2).1
theorem ex_4 {K : PySem.W.Frag} (h : exl K = true) : (decide (PySem.W.findIn K (.ref (He.ga K "World")) "__setattr__" = some (some (.builtin "object.__setattr__")))) = true := (He.ba (He.ba (He.ba (He.ba (He.ba (exg0 h)).2).2).2).2).1
theorem ex_5 {K : PySem.W.Frag} (h : exl K = true) : (PySem.W.makesIn K (He.ga K "World")) = true := (He.ba (He.ba (He.ba (He.ba (He.ba (He.ba (exg0 h)).2).2).2).2).2).1
theorem ex_6 {K : PySem.W.Frag} (h : exl K = true) : (PySem.W.keepIn K (.ref (He.ga K "World"))) = true := (He.ba (He.ba (He.ba (He.ba (He.ba (He.ba (He.ba (exg0 h)).2).2).2).2).2).2).1
theorem ex_7 {K : PySem.W.Frag} (h : exl K = true) : (decide (PySem.W.findIn K (.ref (He.ga K "World")) "__class__" = some (some (.builtin "object.__class__")))) = true := (He.ba (He.ba (He.ba (He.ba (He.ba (He.ba (He.ba (He.ba (exg0 h)).2).2).2).2).2).2).2).1
theorem ex_8 {K : PySem.W.Frag} (h : exl K = true) : (decide (PySem.W.mroIn K (He.ga K "World") (.type "object") = some true)) = true := (He.ba (He.ba (He.ba (He.ba (He.ba (He.ba (He.ba (He.ba (He.ba (exg0 h)).2).2).2).2).2).2).2).2).1
theorem ex_9 {K : PySem.W.Frag} (h : exl K = true) : (decide (PySem.W.findIn K (.ref (He.ga K "World")) "narrow" = some none)) = true := (He.ba (He.ba (He.ba (He.ba (He.ba (He.ba (He.ba (He.ba (He.ba (He.ba (exg0 h)).2).2).2).2).2).2).2).2).2).1
theorem ex_10 {K : PySem.W.Frag} (h : exl K = true) : (decide (PySem.W.findIn K (.ref (He.ga K "World")) "wide" = some none)) = true := (He.ba (He.ba (He.ba (He.ba (He.ba (He.ba (He.ba (He.ba (He.ba (He.ba (He.ba (exg0 h)).2).2).2).2).2).2).2).2).2).2).1
theorem ex_11 {K : PySem.W.Frag} (h : exl K = true) : (decide (PySem.W.findIn K (.ref (He.ga K "World")) "columns" = some none)) = true := (He.ba (He.ba (He.ba (He.ba (He.ba (He.ba (He.ba (He.ba (He.ba (He.ba (He.ba (He.ba (exg0 h)).2).2).2).2).2).2).2).2).2).2).2).1
theorem ex_12 {K : PySem.W.Frag} (h : exl K = true) : (decide (PySem.W.findIn K (.ref (He.ga K "World")) "programs" = some none)) = true := (He.ba (He.ba (He.ba (He.ba (He.ba (He.ba (He.ba (He.ba (He.ba (He.ba (He.ba (He.ba (He.ba (exg0 h)).2).2).2).2).2).2).2).2).2).2).2).2).1
theorem ex_13 {K : PySem.W.Frag} (h : exl K = true) : (decide (PySem.W.nsIn K mainGlobals "Kind" = some (some (.ref (He.ga K "Kind"))))) = true := (He.ba (He.ba (He.ba (He.ba (He.ba (He.ba (He.ba (He.ba (He.ba (He.ba (He.ba (He.ba (He.ba (He.ba (exg0 h)).2).2).2).2).2).2).2).2).2).2).2).2).2).1
theorem ex_14 {K : PySem.W.Frag} (h : exl K = true) : (PySem.W.plainGet K (He.ga K "Kind") Str.empty) = true := (He.ba (He.ba (He.ba (He.ba (He.ba (He.ba (He.ba (He.ba (He.ba (He.ba (He.ba (He.ba (He.ba (He.ba (He.ba (exg0 h)).2).2).2).2).2).2).2).2).2).2).2).2).2).2).1
theorem ex_15 {K : PySem.W.Frag} (h : exl K = true) : (PySem.W.hasDictIn K (He.ga K "Kind")) = true := (He.ba (He.ba (He.ba (He.ba (He.ba (He.ba (He.ba (He.ba (He.ba (He.ba (He.ba (He.ba (He.ba (He.ba (He.ba (He.ba (exg0 h)).2).2).2).2).2).2).2).2).2).2).2).2).2).2).2).1
theorem ex_16 {K : PySem.W.Frag} (h : exl K = true) : (PySem.W.plainOver K (He.ga K "Kind")) = true := (He.ba (He.ba (He.ba (He.ba (He.ba (He.ba (He.ba (He.ba (He.ba (He.ba (He.ba (He.ba (He.ba (He.ba (He.ba (He.ba (He.ba (exg0 h)).2).2).2).2).2).2).2).2).2).2).2).2).2).2).2).2).1
theorem ex_17 {K : PySem.W.Frag} (h : exl K = true) : (decide (PySem.W.findIn K (.ref (He.ga K "Kind")) "__setattr__" = some (some (.builtin "object.__setattr__")))) = true := (He.ba (He.ba (He.ba (He.ba (He.ba (He.ba (He.ba (He.ba (He.ba (He.ba (He.ba (He.ba (He.ba (He.ba (He.ba (He.ba (He.ba (He.ba (exg0 h)).2).2).2).2).2).2).2).2).2).2).2).2).2).2).2).2).2).1
theorem ex_18 {K : PySem.W.Frag} (h : exl K = true) : (PySem.W.makesIn K (He.ga K "Kind")) = true := (He.ba (He.ba (He.ba (He.ba (He.ba (He.ba (He.ba (He.ba (He.ba (He.ba (He.ba (He.ba (He.ba (He.ba (He.ba (He.ba (He.ba (He.ba (He.ba (exg0 h)).2).2).2).2).2).2).2).2).2).2).2).2).2).2).2).2).2).2).1
theorem ex_19 {K : PySem.W.Frag} (h : exl K = true) : (PySem.W.keepIn K (.ref (He.ga K "Kind"))) = true := (He.ba (He.ba (He.ba (He.ba (He.ba (He.ba (He.ba (He.ba (He.ba (He.ba (He.ba (He.ba (He.ba (He.ba (He.ba (He.ba (He.ba (He.ba (He.ba (exg0 h)).2).2).2).2).2).2).2).2).2).2).2).2).2).2).2).2).2).2).2
theorem exg1 {K : PySem.W.Frag} (h : exl K = true) : exl1 K = true := (He.ba (He.ba h).2).1
theorem ex_20 {K : PySem.W.Frag} (h : exl K = true) : (decide (PySem.W.findIn K (.ref (He.ga K "Kind")) "__class__" = some (some (.builtin "object.__class__")))) = true := (He.ba (exg1 h)).1
theorem ex_21 {K : PySem.W.Frag} (h : exl K = true) : (decide (PySem.W.mroIn K (He.ga K "Kind") (.type "object") = some true)) = true := (He.ba (He.ba (exg1 h)).2).1
theorem ex_22 {K : PySem.W.Frag} (h : exl K = true) : (decide (PySem.W.findIn K (.ref (He.ga K "Kind")) "low" = some none)) = true := (He.ba (He.ba (He.ba (exg1 h)).2).2).1
theorem ex_23 {K : PySem.W.Frag} (h : exl K = true) : (decide (PySem.W.findIn K (.ref (He.ga K "Kind")) "high" = some none)) = true := (He.ba (He.ba (He.ba (He.ba (exg1 h)).2).2).2).1
theorem ex_24 {K : PySem.W.Frag} (h : exl K = true) : (decide (PySem.W.findIn K (.ref (He.ga K "Kind")) "size" = some none)) = true := (He.ba (He.ba (He.ba (He.ba (He.ba (exg1 h)).2).2).2).2).1
theorem ex_25 {K : PySem.W.Frag} (h : exl K = true) : (numB K "MOST_LETTERS" 8) = true := (He.ba (He.ba (He.ba (He.ba (He.ba (He.ba (exg1 h)).2).2).2).2).2).1
theorem ex_26 {K : PySem.W.Frag} (h : exl K = true) : (numB K "LEAST_NARROW" 16) = true := (He.ba (He.ba (He.ba (He.ba (He.ba (He.ba (He.ba (exg1 h)).2).2).2).2).2).2).1
theorem ex_27 {K : PySem.W.Frag} (h : exl K = true) : (numB K "MOST_PACE" 99) = true := (He.ba (He.ba (He.ba (He.ba (He.ba (He.ba (He.ba (He.ba (exg1 h)).2).2).2).2).2).2).2).1
theorem ex_28 {K : PySem.W.Frag} (h : exl K = true) : (numB K "MOST_IN_TWO_EVENTS" 2) = true := (He.ba (He.ba (He.ba (He.ba (He.ba (He.ba (He.ba (He.ba (He.ba (exg1 h)).2).2).2).2).2).2).2).2).1
theorem ex_29 {K : PySem.W.Frag} (h : exl K = true) : (decide (PySem.W.nsIn K mainGlobals "SIDES" = some (some (.ref (He.ga K "SIDES"))))) = true := (He.ba (He.ba (He.ba (He.ba (He.ba (He.ba (He.ba (He.ba (He.ba (He.ba (exg1 h)).2).2).2).2).2).2).2).2).2).1
theorem ex_30 {K : PySem.W.Frag} (h : exl K = true) : (decide (tupW K (He.ga K "SIDES") = some (["narrow", "wide"] : List Str))) = true := (He.ba (He.ba (He.ba (He.ba (He.ba (He.ba (He.ba (He.ba (He.ba (He.ba (He.ba (exg1 h)).2).2).2).2).2).2).2).2).2).2).1
theorem ex_31 {K : PySem.W.Frag} (h : exl K = true) : (decide (PySem.W.nsIn K mainGlobals "RULES" = some (some (.ref (He.ga K "RULES"))))) = true := (He.ba (He.ba (He.ba (He.ba (He.ba (He.ba (He.ba (He.ba (He.ba (He.ba (He.ba (He.ba (exg1 h)).2).2).2).2).2).2).2).2).2).2).2).1
theorem ex_32 {K : PySem.W.Frag} (h : exl K = true) : (decide (tupW K (He.ga K "RULES") = some (["cut", "empty", "refuse"] : List Str))) = true := (He.ba (He.ba (He.ba (He.ba (He.ba (He.ba (He.ba (He.ba (He.ba (He.ba (He.ba (He.ba (He.ba (exg1 h)).2).2).2).2).2).2).2).2).2).2).2).2).1
theorem ex_33 {K : PySem.W.Frag} (h : exl K = true) : (decide (PySem.W.nsIn K mainGlobals "DEEDS" = some (some (.ref (He.ga K "DEEDS"))))) = true := (He.ba (He.ba (He.ba (He.ba (He.ba (He.ba (He.ba (He.ba (He.ba (He.ba (He.ba (He.ba (He.ba (He.ba (exg1 h)).2).2).2).2).2).2).2).2).2).2).2).2).2).1
theorem ex_34 {K : PySem.W.Frag} (h : exl K = true) : (decide (tupW K (He.ga K "DEEDS") = some (["match", "order", "show"] : List Str))) = true := (He.ba (He.ba (He.ba (He.ba (He.ba (He.ba (He.ba (He.ba (He.ba (He.ba (He.ba (He.ba (He.ba (He.ba (He.ba (exg1 h)).2).2).2).2).2).2).2).2).2).2).2).2).2).2).1
theorem ex_35 {K : PySem.W.Frag} (h : exl K = true) : (decide (PySem.W.nsIn K mainGlobals "READ_SIDES" = some (some (.ref (He.ga K "READ_SIDES"))))) = true := (He.ba (He.ba (He.ba (He.ba (He.ba (He.ba (He.ba (He.ba (He.ba (He.ba (He.ba (He.ba (He.ba (He.ba (He.ba (He.ba (exg1 h)).2).2).2).2).2).2).2).2).2).2).2).2).2).2).2).1
theorem ex_36 {K : PySem.W.Frag} (h : exl K = true) : (decide (tupW K (He.ga K "READ_SIDES") = some (["narrow", "wide", "either"] : List Str))) = true := (He.ba (He.ba (He.ba (He.ba (He.ba (He.ba (He.ba (He.ba (He.ba (He.ba (He.ba (He.ba (He.ba (He.ba (He.ba (He.ba (He.ba (exg1 h)).2).2).2).2).2).2).2).2).2).2).2).2).2).2).2).2).1
theorem ex_37 {K : PySem.W.Frag} (h : exl K = true) : (decide (PySem.W.nsIn K mainGlobals "HOWS" = some (some (.ref (He.ga K "HOWS"))))) = true := (He.ba (He.ba (He.ba (He.ba (He.ba (He.ba (He.ba (He.ba (He.ba (He.ba (He.ba (He.ba (He.ba (He.ba (He.ba (He.ba (He.ba (He.ba (exg1 h)).2).2).2).2).2).2).2).2).2).2).2).2).2).2).2).2).2).1
theorem ex_38 {K : PySem.W.Frag} (h : exl K = true) : (decide (tupW K (He.ga K "HOWS") = some (["narrow", "wide", "both", "narrow first", "wide first"] : List Str))) = true := (He.ba (He.ba (He.ba (He.ba (He.ba (He.ba (He.ba (He.ba (He.ba (He.ba (He.ba (He.ba (He.ba (He.ba (He.ba (He.ba (He.ba (He.ba (He.ba (exg1 h)).2).2).2).2).2).2).2).2).2).2).2).2).2).2).2).2).2).2).1
theorem ex_39 {K : PySem.W.Frag} (h : exl K = true) : (decide (PySem.W.nsIn K mainGlobals "IN_TWO_EVENTS" = some (some (.ref (He.ga K "IN_TWO_EVENTS"))))) = true := (He.ba (He.ba (He.ba (He.ba (He.ba (He.ba (He.ba (He.ba (He.ba (He.ba (He.ba (He.ba (He.ba (He.ba (He.ba (He.ba (He.ba (He.ba (He.ba (exg1 h)).2).2).2).2).2).2).2).2).2).2).2).2).2).2).2).2).2).2).2
theorem exg2 {K : PySem.W.Frag} (h : exl K = true) : exl2 K = true := (He.ba (He.ba (He.ba h).2).2).1
theorem ex_40 {K : PySem.W.Frag} (h : exl K = true) : (decide (tupW K (He.ga K "IN_TWO_EVENTS") = some (["narrow first", "wide first"] : List Str))) = true := (He.ba (exg2 h)).1
theorem ex_41 {K : PySem.W.Frag} (h : exl K = true) : (decide (PySem.W.nsIn K mainGlobals "dict" = some none)) = true := (He.ba (He.ba (exg2 h)).2).1
theorem ex_42 {K : PySem.W.Frag} (h : exl K = true) : (decide (PySem.W.specialIn K (.builtin "object.__class__") "__get__" = some (some (.builtin "getset_descriptor.__get__")))) = true := (He.ba (He.ba (He.ba (exg2 h)).2).2).1
theorem ex_43 {K : PySem.W.Frag} (h : exl K = true) : (decide (PySem.W.takesIn K (.builtin "object.__class__") = some true)) = true := (He.ba (He.ba (He.ba (He.ba (exg2 h)).2).2).2).1
theorem ex_44 {K : PySem.W.Frag} (h : exl K = true) : (decide (PySem.W.nsIn K mainGlobals "sorted" = some none)) = true := (He.ba (He.ba (He.ba (He.ba (He.ba (exg2 h)).2).2).2).2).1
theorem ex_45 {K : PySem.W.Frag} (h : exl K = true) : (PySem.W.notFirst K (He.ga K "World") (.type "NoneType")) = true := (He.ba (He.ba (He.ba (He.ba (He.ba (He.ba (exg2 h)).2).2).2).2).2).1
theorem ex_46 {K : PySem.W.Frag} (h : exl K = true) : (PySem.W.notFirst K (He.ga K "World") (.type "bool")) = true := (He.ba (He.ba (He.ba (He.ba (He.ba (He.ba (He.ba (exg2 h)).2).2).2).2).2).2).1
theorem ex_47 {K : PySem.W.Frag} (h : exl K = true) : (PySem.W.notFirst K (He.ga K "World") (.type "int")) = true := (He.ba (He.ba (He.ba (He.ba (He.ba (He.ba (He.ba (He.ba (exg2 h)).2).2).2).2).2).2).2).1
theorem ex_48 {K : PySem.W.Frag} (h : exl K = true) : (PySem.W.notFirst K (He.ga K "World") (.type "str")) = true := (He.ba (He.ba (He.ba (He.ba (He.ba (He.ba (He.ba (He.ba (He.ba (exg2 h)).2).2).2).2).2).2).2).2).1
theorem ex_49 {K : PySem.W.Frag} (h : exl K = true) : (PySem.W.notFirst K (He.ga K "World") (.type "list")) = true := (He.ba (He.ba (He.ba (He.ba (He.ba (He.ba (He.ba (He.ba (He.ba (He.ba (exg2 h)).2).2).2).2).2).2).2).2).2).1
theorem ex_50 {K : PySem.W.Frag} (h : exl K = true) : (PySem.W.notFirst K (He.ga K "World") (.type "tuple")) = true := (He.ba (He.ba (He.ba (He.ba (He.ba (He.ba (He.ba (He.ba (He.ba (He.ba (He.ba (exg2 h)).2).2).2).2).2).2).2).2).2).2).1
theorem ex_51 {K : PySem.W.Frag} (h : exl K = true) : (PySem.W.notFirst K (He.ga K "World") (.type "dict")) = true := (He.ba (He.ba (He.ba (He.ba (He.ba (He.ba (He.ba (He.ba (He.ba (He.ba (He.ba (He.ba (exg2 h)).2).2).2).2).2).2).2).2).2).2).2).1
theorem ex_52 {K : PySem.W.Frag} (h : exl K = true) : (decide (PySem.W.kitOne K (.type "NoneType") (.ref (He.ga K "World")) = some false)) = true := (He.ba (He.ba (He.ba (He.ba (He.ba (He.ba (He.ba (He.ba (He.ba (He.ba (He.ba (He.ba (He.ba (exg2 h)).2).2).2).2).2).2).2).2).2).2).2).2).1
theorem ex_53 {K : PySem.W.Frag} (h : exl K = true) : (decide (PySem.W.kitOne K (.type "bool") (.ref (He.ga K "World")) = some false)) = true := (He.ba (He.ba (He.ba (He.ba (He.ba (He.ba (He.ba (He.ba (He.ba (He.ba (He.ba (He.ba (He.ba (He.ba (exg2 h)).2).2).2).2).2).2).2).2).2).2).2).2).2).1
theorem ex_54 {K : PySem.W.Frag} (h : exl K = true) : (decide (PySem.W.kitOne K (.type "int") (.ref (He.ga K "World")) = some false)) = true := (He.ba (He.ba (He.ba (He.ba (He.ba (He.ba (He.ba (He.ba (He.ba (He.ba (He.ba (He.ba (He.ba (He.ba (He.ba (exg2 h)).2).2).2).2).2).2).2).2).2).2).2).2).2).2).1
theorem ex_55 {K : PySem.W.Frag} (h : exl K = true) : (decide (PySem.W.kitOne K (.type "str") (.ref (He.ga K "World")) = some false)) = true := (He.ba (He.ba (He.ba (He.ba (He.ba (He.ba (He.ba (He.ba (He.ba (He.ba (He.ba (He.ba (He.ba (He.ba (He.ba (He.ba (exg2 h)).2).2).2).2).2).2).2).2).2).2).2).2).2).2).2).1
theorem ex_56 {K : PySem.W.Frag} (h : exl K = true) : (decide (PySem.W.kitOne K (.type "list") (.ref (He.ga K "World")) = some false)) = true := (He.ba (He.ba (He.ba (He.ba (He.ba (He.ba (He.ba (He.ba (He.ba (He.ba (He.ba (He.ba (He.ba (He.ba (He.ba (He.ba (He.ba (exg2 h)).2).2).2).2).2).2).2).2).2).2).2).2).2).2).2).2).1
theorem ex_57 {K : PySem.W.Frag} (h : exl K = true) : (decide (PySem.W.kitOne K (.type "tuple") (.ref (He.ga K "World")) = some false)) = true := (He.ba (He.ba (He.ba (He.ba (He.ba (He.ba (He.ba (He.ba (He.ba (He.ba (He.ba (He.ba (He.ba (He.ba (He.ba (He.ba (He.ba (He.ba (exg2 h)).2).2).2).2).2).2).2).2).2).2).2).2).2).2).2).2).2).1
theorem ex_58 {K : PySem.W.Frag} (h : exl K = true) : (decide (PySem.W.kitOne K (.type "dict") (.ref (He.ga K "World")) = some false)) = true := (He.ba (He.ba (He.ba (He.ba (He.ba (He.ba (He.ba (He.ba (He.ba (He.ba (He.ba (He.ba (He.ba (He.ba (He.ba (He.ba (He.ba (He.ba (He.ba (exg2 h)).2).2).2).2).2).2).2).2).2).2).2).2).2).2).2).2).2).2).1
theorem ex_59 {K : PySem.W.Frag} (h : exl K = true) : (PySem.W.notFirst K (He.ga K "World") (.ref (He.ga K "World"))) = true := (He.ba (He.ba (He.ba (He.ba (He.ba (He.ba (He.ba (He.ba (He.ba (He.ba (He.ba (He.ba (He.ba (He.ba (He.ba (He.ba (He.ba (He.ba (He.ba (exg2 h)).2).2).2).2).2).2).2).2).2).2).2).2).2).2).2).2).2).2).2
theorem exg3 {K : PySem.W.Frag} (h : exl K = true) : exl3 K = true := (He.ba (He.ba (He.ba (He.ba h).2).2).2).1
theorem ex_60 {K : PySem.W.Frag} (h : exl K = true) : (decide (PySem.W.findIn K (.ref (He.ga K "World")) "__ne__" = some (some (.builtin "object.__ne__")))) = true := (He.ba (exg3 h)).1
theorem ex_61 {K : PySem.W.Frag} (h : exl K = true) : (PySem.W.notFirst K (He.ga K "World") (.ref (He.ga K "Kind"))) = true := (He.ba (He.ba (exg3 h)).2).1
theorem ex_62 {K : PySem.W.Frag} (h : exl K = true) : (decide (PySem.W.kitOne K (.ref (He.ga K "Kind")) (.ref (He.ga K "World")) = some false)) = true := (He.ba (He.ba (He.ba (exg3 h)).2).2).1
theorem ex_63 {K : PySem.W.Frag} (h : exl K = true) : (decide (PySem.W.nsIn K mainGlobals "is_integer" = some (some (.ref (He.ga K "is_integer"))))) = true := (He.ba (He.ba (He.ba (He.ba (exg3 h)).2).2).2).1
theorem ex_64 {K : PySem.W.Frag} (h : exl K = true) : (decide (PySem.W.nsIn K mainGlobals "is_between" = some (some (.ref (He.ga K "is_between"))))) = true := (He.ba (He.ba (He.ba (He.ba (He.ba (exg3 h)).2).2).2).2).1
theorem ex_65 {K : PySem.W.Frag} (h : exl K = true) : (decide (PySem.W.nsIn K mainGlobals "lesser" = some (some (.ref (He.ga K "lesser"))))) = true := (He.ba (He.ba (He.ba (He.ba (He.ba (He.ba (exg3 h)).2).2).2).2).2).1
theorem ex_66 {K : PySem.W.Frag} (h : exl K = true) : (decide (PySem.W.nsIn K mainGlobals "greater" = some (some (.ref (He.ga K "greater"))))) = true := (He.ba (He.ba (He.ba (He.ba (He.ba (He.ba (He.ba (exg3 h)).2).2).2).2).2).2).1
theorem ex_67 {K : PySem.W.Frag} (h : exl K = true) : (decide (PySem.W.nsIn K mainGlobals "is_name" = some (some (.ref (He.ga K "is_name"))))) = true := (He.ba (He.ba (He.ba (He.ba (He.ba (He.ba (He.ba (He.ba (exg3 h)).2).2).2).2).2).2).2).1
theorem ex_68 {K : PySem.W.Frag} (h : exl K = true) : (decide (PySem.W.nsIn K mainGlobals "is_tuple_of" = some (some (.ref (He.ga K "is_tuple_of"))))) = true := (He.ba (He.ba (He.ba (He.ba (He.ba (He.ba (He.ba (He.ba (He.ba (exg3 h)).2).2).2).2).2).2).2).2).1
theorem ex_69 {K : PySem.W.Frag} (h : exl K = true) : (decide (PySem.W.nsIn K mainGlobals "is_ascending" = some (some (.ref (He.ga K "is_ascending"))))) = true := (He.ba (He.ba (He.ba (He.ba (He.ba (He.ba (He.ba (He.ba (He.ba (He.ba (exg3 h)).2).2).2).2).2).2).2).2).2).1
theorem ex_70 {K : PySem.W.Frag} (h : exl K = true) : (decide (PySem.W.findIn K (.ref (He.ga K "Kind")) "__init__" = some (some (.ref (He.ma K (He.ga K "Kind") "__init__"))))) = true := (He.ba (He.ba (He.ba (He.ba (He.ba (He.ba (He.ba (He.ba (He.ba (He.ba (He.ba (exg3 h)).2).2).2).2).2).2).2).2).2).2).1
theorem ex_71 {K : PySem.W.Frag} (h : exl K = true) : (PySem.W.isFn K (.ref (He.ma K (He.ga K "Kind") "__init__"))) = true := (He.ba (He.ba (He.ba (He.ba (He.ba (He.ba (He.ba (He.ba (He.ba (He.ba (He.ba (He.ba (exg3 h)).2).2).2).2).2).2).2).2).2).2).2).1
theorem ex_72 {K : PySem.W.Frag} (h : exl K = true) : (decide (PySem.W.findIn K (.ref (He.ga K "Kind")) "__eq__" = some (some (.ref (He.ma K (He.ga K "Kind") "__eq__"))))) = true := (He.ba (He.ba (He.ba (He.ba (He.ba (He.ba (He.ba (He.ba (He.ba (He.ba (He.ba (He.ba (He.ba (exg3 h)).2).2).2).2).2).2).2).2).2).2).2).2).1
theorem ex_73 {K : PySem.W.Frag} (h : exl K = true) : (PySem.W.isFn K (.ref (He.ma K (He.ga K "Kind") "__eq__"))) = true := (He.ba (He.ba (He.ba (He.ba (He.ba (He.ba (He.ba (He.ba (He.ba (He.ba (He.ba (He.ba (He.ba (He.ba (exg3 h)).2).2).2).2).2).2).2).2).2).2).2).2).2).1
theorem ex_74 {K : PySem.W.Frag} (h : exl K = true) : (decide (PySem.W.findIn K (.ref (He.ga K "Kind")) "__le__" = some (some (.ref (He.ma K (He.ga K "Kind") "__le__"))))) = true := (He.ba (He.ba (He.ba (He.ba (He.ba (He.ba (He.ba (He.ba (He.ba (He.ba (He.ba (He.ba (He.ba (He.ba (He.ba (exg3 h)).2).2).2).2).2).2).2).2).2).2).2).2).2).2).1
theorem ex_75 {K : PySem.W.Frag} (h : exl K = true) : (PySem.W.isFn K (.ref (He.ma K (He.ga K "Kind") "__le__"))) = true := (He.ba (He.ba (He.ba (He.ba (He.ba (He.ba (He.ba (He.ba (He.ba (He.ba (He.ba (He.ba (He.ba (He.ba (He.ba (He.ba (exg3 h)).2).2).2).2).2).2).2).2).2).2).2).2).2).2).2).1
theorem ex_76 {K : PySem.W.Frag} (h : exl K = true) : (decide (PySem.W.findIn K (.ref (He.ga K "Kind")) "__lt__" = some (some (.ref (He.ma K (He.ga K "Kind") "__lt__"))))) = true := (He.ba (He.ba (He.ba (He.ba (He.ba (He.ba (He.ba (He.ba (He.ba (He.ba (He.ba (He.ba (He.ba (He.ba (He.ba (He.ba (He.ba (exg3 h)).2).2).2).2).2).2).2).2).2).2).2).2).2).2).2).2).1
theorem ex_77 {K : PySem.W.Frag} (h : exl K = true) : (PySem.W.isFn K (.ref (He.ma K (He.ga K "Kind") "__lt__"))) = true := (He.ba (He.ba (He.ba (He.ba (He.ba (He.ba (He.ba (He.ba (He.ba (He.ba (He.ba (He.ba (He.ba (He.ba (He.ba (He.ba (He.ba (He.ba (exg3 h)).2).2).2).2).2).2).2).2).2).2).2).2).2).2).2).2).2).1
theorem ex_78 {K : PySem.W.Frag} (h : exl K = true) : (decide (PySem.W.findIn K (.ref (He.ga K "Kind")) "__str__" = some (some (.ref (He.ma K (He.ga K "Kind") "__str__"))))) = true := (He.ba (He.ba (He.ba (He.ba (He.ba (He.ba (He.ba (He.ba (He.ba (He.ba (He.ba (He.ba (He.ba (He.ba (He.ba (He.ba (He.ba (He.ba (He.ba (exg3 h)).2).2).2).2).2).2).2).2).2).2).2).2).2).2).2).2).2).2).1
theorem ex_79 {K : PySem.W.Frag} (h : exl K = true) : (PySem.W.isFn K (.ref (He.ma K (He.ga K "Kind") "__str__"))) = true := (He.ba (He.ba (He.ba (He.ba (He.ba (He.ba (He.ba (He.ba (He.ba (He.ba (He.ba (He.ba (He.ba (He.ba (He.ba (He.ba (He.ba (He.ba (He.ba (exg3 h)).2).2).2).2).2).2).2).2).2).2).2).2).2).2).2).2).2).2).2
theorem exg4 {K : PySem.W.Frag} (h : exl K = true) : exl4 K = true := (He.ba (He.ba (He.ba (He.ba (He.ba h).2).2).2).2).1
theorem ex_80 {K : PySem.W.Frag} (h : exl K = true) : (decide (PySem.W.findIn K (.ref (He.ga K "World")) "__init__" = some (some (.ref (He.ma K (He.ga K "World") "__init__"))))) = true := (He.ba (exg4 h)).1
theorem ex_81 {K : PySem.W.Frag} (h : exl K = true) : (PySem.W.isFn K (.ref (He.ma K (He.ga K "World") "__init__"))) = true := (He.ba (He.ba (exg4 h)).2).1
theorem ex_82 {K : PySem.W.Frag} (h : exl K = true) : (decide (PySem.W.findIn K (.ref (He.ga K "World")) "__eq__" = some (some (.ref (He.ma K (He.ga K "World") "__eq__"))))) = true := (He.ba (He.ba (He.ba (exg4 h)).2).2).1
theorem ex_83 {K : PySem.W.Frag} (h : exl K = true) : (PySem.W.isFn K (.ref (He.ma K (He.ga K "World") "__eq__"))) = true := (He.ba (He.ba (He.ba (He.ba (exg4 h)).2).2).2).1
theorem ex_84 {K : PySem.W.Frag} (h : exl K = true) : (decide (PySem.W.nsIn K mainGlobals "_are_kinds" = some (some (.ref (He.ga K "_are_kinds"))))) = true := (He.ba (He.ba (He.ba (He.ba (He.ba (exg4 h)).2).2).2).2).1
theorem ex_85 {K : PySem.W.Frag} (h : exl K = true) : (decide (PySem.W.nsIn K mainGlobals "_are_columns" = some (some (.ref (He.ga K "_are_columns"))))) = true := (He.ba (He.ba (He.ba (He.ba (He.ba (He.ba (exg4 h)).2).2).2).2).2).1
theorem ex_86 {K : PySem.W.Frag} (h : exl K = true) : (decide (PySem.W.nsIn K mainGlobals "_are_programs" = some (some (.ref (He.ga K "_are_programs"))))) = true := (He.ba (He.ba (He.ba (He.ba (He.ba (He.ba (He.ba (exg4 h)).2).2).2).2).2).2).1
theorem ex_87 {K : PySem.W.Frag} (h : exl K = true) : (decide (PySem.W.nsIn K mainGlobals "_is_program" = some (some (.ref (He.ga K "_is_program"))))) = true := (He.ba (He.ba (He.ba (He.ba (He.ba (He.ba (He.ba (He.ba (exg4 h)).2).2).2).2).2).2).2).1
theorem ex_88 {K : PySem.W.Frag} (h : exl K = true) : (decide (PySem.W.nsIn K mainGlobals "_is_edition" = some (some (.ref (He.ga K "_is_edition"))))) = true := (He.ba (He.ba (He.ba (He.ba (He.ba (He.ba (He.ba (He.ba (He.ba (exg4 h)).2).2).2).2).2).2).2).2).1
theorem ex_89 {K : PySem.W.Frag} (h : exl K = true) : (decide (PySem.W.nsIn K mainGlobals "_are_rows" = some (some (.ref (He.ga K "_are_rows"))))) = true := (He.ba (He.ba (He.ba (He.ba (He.ba (He.ba (He.ba (He.ba (He.ba (He.ba (exg4 h)).2).2).2).2).2).2).2).2).2).1
theorem ex_90 {K : PySem.W.Frag} (h : exl K = true) : (decide (PySem.W.nsIn K mainGlobals "_is_read" = some (some (.ref (He.ga K "_is_read"))))) = true := (He.ba (He.ba (He.ba (He.ba (He.ba (He.ba (He.ba (He.ba (He.ba (He.ba (He.ba (exg4 h)).2).2).2).2).2).2).2).2).2).2).1
theorem ex_91 {K : PySem.W.Frag} (h : exl K = true) : (decide (PySem.W.nsIn K mainGlobals "_is_write" = some (some (.ref (He.ga K "_is_write"))))) = true := (He.ba (He.ba (He.ba (He.ba (He.ba (He.ba (He.ba (He.ba (He.ba (He.ba (He.ba (He.ba (exg4 h)).2).2).2).2).2).2).2).2).2).2).2).1
theorem ex_92 {K : PySem.W.Frag} (h : exl K = true) : (decide (PySem.W.nsIn K mainGlobals "_is_first_edition" = some (some (.ref (He.ga K "_is_first_edition"))))) = true := (He.ba (He.ba (He.ba (He.ba (He.ba (He.ba (He.ba (He.ba (He.ba (He.ba (He.ba (He.ba (He.ba (exg4 h)).2).2).2).2).2).2).2).2).2).2).2).2).1
theorem ex_93 {K : PySem.W.Frag} (h : exl K = true) : (decide (PySem.W.nsIn K mainGlobals "_many_in_two_events" = some (some (.ref (He.ga K "_many_in_two_events"))))) = true := (He.ba (He.ba (He.ba (He.ba (He.ba (He.ba (He.ba (He.ba (He.ba (He.ba (He.ba (He.ba (He.ba (He.ba (exg4 h)).2).2).2).2).2).2).2).2).2).2).2).2).2).1
theorem ex_94 {K : PySem.W.Frag} (h : exl K = true) : (decide (PySem.W.nsIn K mainGlobals "_law_pot" = some (some (.ref (He.ga K "_law_pot"))))) = true := (He.ba (He.ba (He.ba (He.ba (He.ba (He.ba (He.ba (He.ba (He.ba (He.ba (He.ba (He.ba (He.ba (He.ba (He.ba (exg4 h)).2).2).2).2).2).2).2).2).2).2).2).2).2).2).1
theorem ex_95 {K : PySem.W.Frag} (h : exl K = true) : (decide (PySem.W.nsIn K mainGlobals "_law_take" = some (some (.ref (He.ga K "_law_take"))))) = true := (He.ba (He.ba (He.ba (He.ba (He.ba (He.ba (He.ba (He.ba (He.ba (He.ba (He.ba (He.ba (He.ba (He.ba (He.ba (He.ba (exg4 h)).2).2).2).2).2).2).2).2).2).2).2).2).2).2).2).1
theorem ex_96 {K : PySem.W.Frag} (h : exl K = true) : (decide (PySem.W.nsIn K mainGlobals "_law_of" = some (some (.ref (He.ga K "_law_of"))))) = true := (He.ba (He.ba (He.ba (He.ba (He.ba (He.ba (He.ba (He.ba (He.ba (He.ba (He.ba (He.ba (He.ba (He.ba (He.ba (He.ba (He.ba (exg4 h)).2).2).2).2).2).2).2).2).2).2).2).2).2).2).2).2).1
theorem ex_97 {K : PySem.W.Frag} (h : exl K = true) : (decide (PySem.W.nsIn K mainGlobals "_law_names" = some (some (.ref (He.ga K "_law_names"))))) = true := (He.ba (He.ba (He.ba (He.ba (He.ba (He.ba (He.ba (He.ba (He.ba (He.ba (He.ba (He.ba (He.ba (He.ba (He.ba (He.ba (He.ba (He.ba (exg4 h)).2).2).2).2).2).2).2).2).2).2).2).2).2).2).2).2).2).1
theorem ex_98 {K : PySem.W.Frag} (h : exl K = true) : (decide (PySem.W.nsIn K mainGlobals "_law_kinds" = some (some (.ref (He.ga K "_law_kinds"))))) = true := (He.ba (He.ba (He.ba (He.ba (He.ba (He.ba (He.ba (He.ba (He.ba (He.ba (He.ba (He.ba (He.ba (He.ba (He.ba (He.ba (He.ba (He.ba (He.ba (exg4 h)).2).2).2).2).2).2).2).2).2).2).2).2).2).2).2).2).2).2).1
theorem ex_99 {K : PySem.W.Frag} (h : exl K = true) : (decide (PySem.W.nsIn K mainGlobals "_law_reads" = some (some (.ref (He.ga K "_law_reads"))))) = true := (He.ba (He.ba (He.ba (He.ba (He.ba (He.ba (He.ba (He.ba (He.ba (He.ba (He.ba (He.ba (He.ba (He.ba (He.ba (He.ba (He.ba (He.ba (He.ba (exg4 h)).2).2).2).2).2).2).2).2).2).2).2).2).2).2).2).2).2).2).2
theorem exg5 {K : PySem.W.Frag} (h : exl K = true) : exl5 K = true := (He.ba (He.ba (He.ba (He.ba (He.ba (He.ba h).2).2).2).2).2).1
theorem ex_100 {K : PySem.W.Frag} (h : exl K = true) : (decide (PySem.W.nsIn K mainGlobals "_law_writes" = some (some (.ref (He.ga K "_law_writes"))))) = true := (He.ba (exg5 h)).1
theorem ex_101 {K : PySem.W.Frag} (h : exl K = true) : (decide (PySem.W.nsIn K mainGlobals "_law_edition" = some (some (.ref (He.ga K "_law_edition"))))) = true := (He.ba (He.ba (exg5 h)).2).1
theorem ex_102 {K : PySem.W.Frag} (h : exl K = true) : (decide (PySem.W.nsIn K mainGlobals "_law_world" = some (some (.ref (He.ga K "_law_world"))))) = true := (He.ba (He.ba (He.ba (exg5 h)).2).2).1
theorem ex_103 {K : PySem.W.Frag} (h : exl K = true) : (decide (PySem.W.nsIn K mainGlobals "_law_ends" = some (some (.ref (He.ga K "_law_ends"))))) = true := (He.ba (He.ba (He.ba (He.ba (exg5 h)).2).2).2).1
theorem ex_104 {K : PySem.W.Frag} (h : exl K = true) : (decide (PySem.W.nsIn K mainGlobals "_law_others" = some (some (.ref (He.ga K "_law_others"))))) = true := (He.ba (He.ba (He.ba (He.ba (He.ba (exg5 h)).2).2).2).2).1
theorem ex_105 {K : PySem.W.Frag} (h : exl K = true) : (decide (PySem.W.nsIn K mainGlobals "_law_late" = some (some (.ref (He.ga K "_law_late"))))) = true := (He.ba (He.ba (He.ba (He.ba (He.ba (He.ba (exg5 h)).2).2).2).2).2).1
theorem ex_106 {K : PySem.W.Frag} (h : exl K = true) : (decide (PySem.W.nsIn K mainGlobals "_law_made" = some (some (.ref (He.ga K "_law_made"))))) = true := (He.ba (He.ba (He.ba (He.ba (He.ba (He.ba (He.ba (exg5 h)).2).2).2).2).2).2).1
theorem ex_107 {K : PySem.W.Frag} (h : exl K = true) : (decide (PySem.W.nsIn K mainGlobals "_law_right" = some (some (.ref (He.ga K "_law_right"))))) = true := (He.ba (He.ba (He.ba (He.ba (He.ba (He.ba (He.ba (He.ba (exg5 h)).2).2).2).2).2).2).2).1
theorem ex_108 {K : PySem.W.Frag} (h : exl K = true) : (decide (PySem.W.nsIn K mainGlobals "law" = some (some (.ref (He.ga K "law"))))) = true := (He.ba (He.ba (He.ba (He.ba (He.ba (He.ba (He.ba (He.ba (He.ba (exg5 h)).2).2).2).2).2).2).2).2).1
theorem ex_109 {K : PySem.W.Frag} (h : exl K = true) : (decide (PySem.W.nsIn K mainGlobals "int" = some none)) = true := (He.ba (He.ba (He.ba (He.ba (He.ba (He.ba (He.ba (He.ba (He.ba (He.ba (exg5 h)).2).2).2).2).2).2).2).2).2).1
theorem ex_110 {K : PySem.W.Frag} (h : exl K = true) : (decide (PySem.W.nsIn K mainGlobals "len" = some none)) = true := (He.ba (He.ba (He.ba (He.ba (He.ba (He.ba (He.ba (He.ba (He.ba (He.ba (He.ba (exg5 h)).2).2).2).2).2).2).2).2).2).2).1
theorem ex_111 {K : PySem.W.Frag} (h : exl K = true) : (decide (PySem.W.nsIn K mainGlobals "abs" = some none)) = true := (He.ba (He.ba (He.ba (He.ba (He.ba (He.ba (He.ba (He.ba (He.ba (He.ba (He.ba (He.ba (exg5 h)).2).2).2).2).2).2).2).2).2).2).2).1
theorem ex_112 {K : PySem.W.Frag} (h : exl K = true) : (decide (PySem.W.nsIn K mainGlobals "bool" = some none)) = true := (He.ba (He.ba (He.ba (He.ba (He.ba (He.ba (He.ba (He.ba (He.ba (He.ba (He.ba (He.ba (He.ba (exg5 h)).2).2).2).2).2).2).2).2).2).2).2).2).1
theorem ex_113 {K : PySem.W.Frag} (h : exl K = true) : (decide (PySem.W.nsIn K mainGlobals "tuple" = some none)) = true := (He.ba (He.ba (He.ba (He.ba (He.ba (He.ba (He.ba (He.ba (He.ba (He.ba (He.ba (He.ba (He.ba (He.ba (exg5 h)).2).2).2).2).2).2).2).2).2).2).2).2).2).1
theorem ex_114 {K : PySem.W.Frag} (h : exl K = true) : (decide (PySem.W.nsIn K mainGlobals "isinstance" = some none)) = true := (He.ba (He.ba (He.ba (He.ba (He.ba (He.ba (He.ba (He.ba (He.ba (He.ba (He.ba (He.ba (He.ba (He.ba (He.ba (exg5 h)).2).2).2).2).2).2).2).2).2).2).2).2).2).2).1
theorem ex_115 {K : PySem.W.Frag} (h : exl K = true) : (decide (PySem.W.nsIn K mainGlobals "range" = some none)) = true := (He.ba (He.ba (He.ba (He.ba (He.ba (He.ba (He.ba (He.ba (He.ba (He.ba (He.ba (He.ba (He.ba (He.ba (He.ba (He.ba (exg5 h)).2).2).2).2).2).2).2).2).2).2).2).2).2).2).2).1
theorem ex_116 {K : PySem.W.Frag} (h : exl K = true) : (decide (PySem.W.nsIn K mainGlobals "max" = some none)) = true := (He.ba (He.ba (He.ba (He.ba (He.ba (He.ba (He.ba (He.ba (He.ba (He.ba (He.ba (He.ba (He.ba (He.ba (He.ba (He.ba (He.ba (exg5 h)).2).2).2).2).2).2).2).2).2).2).2).2).2).2).2).2).1
theorem ex_117 {K : PySem.W.Frag} (h : exl K = true) : (decide (PySem.W.nsIn K mainGlobals "min" = some none)) = true := (He.ba (He.ba (He.ba (He.ba (He.ba (He.ba (He.ba (He.ba (He.ba (He.ba (He.ba (He.ba (He.ba (He.ba (He.ba (He.ba (He.ba (He.ba (exg5 h)).2).2).2).2).2).2).2).2).2).2).2).2).2).2).2).2).2).1
theorem ex_118 {K : PySem.W.Frag} (h : exl K = true) : (decide (PySem.W.nsIn K mainGlobals "all" = some none)) = true := (He.ba (He.ba (He.ba (He.ba (He.ba (He.ba (He.ba (He.ba (He.ba (He.ba (He.ba (He.ba (He.ba (He.ba (He.ba (He.ba (He.ba (He.ba (He.ba (exg5 h)).2).2).2).2).2).2).2).2).2).2).2).2).2).2).2).2).2).2).1
theorem ex_119 {K : PySem.W.Frag} (h : exl K = true) : (decide (PySem.W.nsIn K mainGlobals "repr" = some none)) = true := (He.ba (He.ba (He.ba (He.ba (He.ba (He.ba (He.ba (He.ba (He.ba (He.ba (He.ba (He.ba (He.ba (He.ba (He.ba (He.ba (He.ba (He.ba (He.ba (exg5 h)).2).2).2).2).2).2).2).2).2).2).2).2).2).2).2).2).2).2).2
theorem exg6 {K : PySem.W.Frag} (h : exl K = true) : exl6 K = true := (He.ba (He.ba (He.ba (He.ba (He.ba (He.ba h).2).2).2).2).2).2
theorem ex_120 {K : PySem.W.Frag} (h : exl K = true) : (decide (PySem.W.nsIn K mainGlobals "str" = some none)) = true := (He.ba (exg6 h)).1
theorem ex_121 {K : PySem.W.Frag} (h : exl K = true) : (decide (PySem.W.nsIn K mainGlobals "any" = some none)) = true := (He.ba (He.ba (exg6 h)).2).1
theorem ex_122 {K : PySem.W.Frag} (h : exl K = true) : (decide (PySem.W.nsIn K mainGlobals "list" = some none)) = true := (He.ba (He.ba (He.ba (exg6 h)).2).2).1
theorem ex_123 {K : PySem.W.Frag} (h : exl K = true) : (decide (PySem.W.nsIn K mainGlobals "zip" = some none)) = true := (He.ba (He.ba (He.ba (He.ba (exg6 h)).2).2).2).1
theorem ex_124 {K : PySem.W.Frag} (h : exl K = true) : (decide (PySem.W.nsIn K mainGlobals "enumerate" = some none)) = true := (He.ba (He.ba (He.ba (He.ba (exg6 h)).2).2).2).2
def lo0 : List Str := [("WidthError" : Str), ("BadKind" : Str), ("BadNumber" : Str), ("BadBits" : Str), ("BadText" : Str), ("BadWorld" : Str), ("MOST_FIGURES" : Str), ("is_integer" : Str), ("is_between" : Str), ("lesser" : Str), ("greater" : Str), ("read_integer" : Str), ("SIDES" : Str), ("RULES" : Str), ("MOST_LETTERS" : Str), ("is_name" : Str), ("is_tuple_of" : Str), ("is_ascending" : Str), ("MOST_BITS" : Str), ("MOST_DIGITS" : Str), ("Kind" : Str), ("_power_of_ten" : Str), ("LEAST_NARROW" : Str), ("MOST_PACE" : Str), ("MOST_IN_TWO_EVENTS" : Str)]
def lo1 : List Str := [("DEEDS" : Str), ("READ_SIDES" : Str), ("HOWS" : Str), ("IN_TWO_EVENTS" : Str), ("World" : Str), ("_are_kinds" : Str), ("_are_columns" : Str), ("_are_programs" : Str), ("_is_program" : Str), ("_is_edition" : Str), ("_are_rows" : Str), ("_is_read" : Str), ("_is_write" : Str), ("_is_first_edition" : Str), ("_many_in_two_events" : Str), ("_law_pot" : Str), ("_law_take" : Str), ("_law_of" : Str), ("_law_names" : Str), ("_law_kinds" : Str), ("_law_reads" : Str), ("_law_writes" : Str), ("_law_edition" : Str), ("_law_world" : Str), ("_law_ends" : Str)]
def lo2 : List Str := [("_law_others" : Str), ("_law_late" : Str), ("_law_made" : Str), ("_law_right" : Str)]
def los : List Str := lo0 ++ lo1 ++ lo2
abbrev R : PySem.W.OpenRow := PySem.W.OpenLaw.row PySem.Challenge.rw_widerkeys_k10_worlds_told_and_compared
def asl0 : List Addr := [3, 129, 136, 143, 150, 158, 159, 166, 173, 178, 305, 317, 318, 319, 320, 344, 355, 360, 365, 370, 375, 380, 385, 392, 397, 402, 409, 416, 423, 428]
def asl1 : List Addr := [435, 440, 445, 452, 457, 464, 469, 474, 481, 486, 491, 128, 135, 142, 149, 165, 172, 177, 304, 343, 354, 359, 364, 369, 374, 379, 384, 391, 396, 401]
def asl2 : List Addr := [408, 415, 422, 427, 434, 439, 444, 451, 456, 463, 468, 473, 480, 485, 490, 192, 253, 260, 267, 302, 334, 341, 191, 252, 259, 266, 301, 333, 340]
def asl : List Addr := asl0 ++ asl1 ++ asl2
abbrev hk : PySem.W.Hook := hookL asl fnl tsl exl
def ob (s : PySem.W.SharedT) : AlL := obsL asl fnl tsl exl (HandSHeadRun.getT s)
theorem ob_eq (s : PySem.W.SharedT) : ob s = hk.obs s.abs := obsL_eq (HandSHeadRun.getT_eq s)
noncomputable def EndE (w : World) (os : OsState) : Option PySem.W.SharedT := HandSHeadRun.endF (HandSHeadRun.stepQ (HandSHeadRun.denQ HandSHeadRun.tabQ) R.prog w) 12000 R.prog w os
noncomputable def fA (w : World) (s : PySem.W.SharedT) := (HandSHeadRun.looksF R.prog (PySem.W.boot_heap w.params) s.abs, HandSHeadRun.seenQ (PySem.W.view R.prog [60]) los (PySem.importedModules R.prog.main.body) (fun s => PySem.W.xlAt (PySem.W.view R.prog [60]) [] s && PySem.W.recOk R.records s) s.abs)
def fE (s : PySem.W.SharedT) : Bool := exl (He.frG (HandSHeadRun.getT s) asl)
def fO (s : PySem.W.SharedT) := He.obsT [] fnl tsl (He.frG (HandSHeadRun.getT s) asl)
abbrev PA (w : World) : Prop := ∀ os : OsState, Option.map (fA w) (EndE w os) = some (true, PySem.W.openGood (PySem.W.view R.prog [60]) los)
abbrev PE_ (w : World) : Prop := ∀ os : OsState, Option.map fE (EndE w os) = some true
abbrev PO (w : World) : Prop := ∀ os : OsState, Option.map fO (EndE w os) = some (He.valT fnl tsl w)
theorem runAF (w : World) : PA (w.withFollow "special-get-raises" false) := by
  intro os
  kernel_rfl
theorem runAT (w : World) : PA (w.withFollow "special-get-raises" true) := by
  intro os
  kernel_rfl
theorem runEF (w : World) : PE_ (w.withFollow "special-get-raises" false) := by
  intro os
  kernel_rfl
theorem runET (w : World) : PE_ (w.withFollow "special-get-raises" true) := by
  intro os
  kernel_rfl
theorem runOF (w : World) : PO (w.withFollow "special-get-raises" false) := by
  intro os
  kernel_rfl
theorem runOT (w : World) : PO (w.withFollow "special-get-raises" true) := by
  intro os
  kernel_rfl
theorem run3 {α β γ σ : Type} {e : Option σ} {f : σ → α × β} {g : σ → γ} {h : σ → Bool} {x : α} {y : β} {v : γ} (a : Option.map f e = some (x, y)) (d : Option.map h e = some true) (o : Option.map g e = some v) : Option.map (fun s => ((f s).1, (f s).2, (g s, h s))) e = some (x, y, (v, true)) := by
  cases e with
  | none => cases a
  | some s =>
    have a : f s = (x, y) := Option.some.inj a
    have d : h s = true := Option.some.inj d
    have o : g s = v := Option.some.inj o
    show some ((f s).1, (f s).2, (g s, h s)) = _
    rw [a, d, o]
theorem x2 (s : PySem.W.SharedT) : ob s = (fO s, fE s) := rfl
theorem x3 (w : World) : hk.val w = (He.valT fnl tsl w, true) := rfl
theorem x4 (w : World) (s : PySem.W.SharedT) : (HandSHeadRun.looksF R.prog (PySem.W.boot_heap w.params) s.abs, HandSHeadRun.seenQ (PySem.W.view R.prog [60]) los (PySem.importedModules R.prog.main.body) (fun s => PySem.W.xlAt (PySem.W.view R.prog [60]) [] s && PySem.W.recOk R.records s) s.abs, ob s) = ((fA w s).1, (fA w s).2, (fO s, fE s)) := by
  rw [x2]
  rfl
theorem run (w : World) : HandSHeadRun.RunEq R (PySem.W.view R.prog [60]) hk ob 12000 los w := by
  intro os
  have z := run3 (PySem.W.byRow2 "special-get-raises" (P := PA) runAF runAT w os) (PySem.W.byRow2 "special-get-raises" (P := PE_) runEF runET w os) (PySem.W.byRow2 "special-get-raises" (P := PO) runOF runOT w os)
  rw [← x3] at z
  have f : (fun s => ((fA w s).1, (fA w s).2, (fO s, fE s))) = fun s => (HandSHeadRun.looksF R.prog (PySem.W.boot_heap w.params) s.abs, HandSHeadRun.seenQ (PySem.W.view R.prog [60]) los (PySem.importedModules R.prog.main.body) (fun s => PySem.W.xlAt (PySem.W.view R.prog [60]) [] s && PySem.W.recOk R.records s) s.abs, ob s) := funext fun s => (x4 w s).symm
  rw [f] at z
  unfold EndE at z
  exact z
end Zd
namespace Zd
open PySem PySem.Spec PyProof.Rows L2 Zg
structure TxN (mg : Str → Option Value) (n_MOST_LETTERS : Tok) (n_LEAST_NARROW : Tok) (n_MOST_PACE : Tok) (n_MOST_IN_TWO_EVENTS : Tok) : Prop where
  g_MOST_LETTERS : mg "MOST_LETTERS" = some (.int 8 n_MOST_LETTERS)
  g_LEAST_NARROW : mg "LEAST_NARROW" = some (.int 16 n_LEAST_NARROW)
  g_MOST_PACE : mg "MOST_PACE" = some (.int 99 n_MOST_PACE)
  g_MOST_IN_TWO_EVENTS : mg "MOST_IN_TWO_EVENTS" = some (.int 2 n_MOST_IN_TWO_EVENTS)
def L_is_integer : List Dat → M Dat := runD N_is_integer.length (sRet (xAnd (xCB dIsi (xCons (xVar 0) (xCons (xC (.ty "int")) xNil))) (xNot (xCB dIsi (xCons (xVar 0) (xCons (xC (.ty "bool")) xNil))))))
def L_is_between : List Dat → M Dat := runD N_is_between.length (sRet (xAnd (xCall L_is_integer (xCons (xVar 0) xNil)) (xChain dLe dLe (xVar 1) (xVar 0) (xVar 2))))
def L_lesser : List Dat → M Dat := runD N_lesser.length (sRet (xIf (bTest (xOp dLe (xVar 0) (xVar 1))) (xVar 0) (xVar 1)))
def L_greater : List Dat → M Dat := runD N_greater.length (sRet (xIf (bTest (xOp dGe (xVar 0) (xVar 1))) (xVar 0) (xVar 1)))
def L_is_name : List Dat → M Dat := runD N_is_name.length (sSeq (sIf (bOr (bNot (bTest (xCB dIsi (xCons (xVar 0) (xCons (xC (.ty "str")) xNil))))) (bTest (xOp dGt (xCB dLenS (xCons (xVar 0) xNil)) (xC (.int 8))))) (sRet (xC (.bl false))) sNx)
    (sRet (xAnd (xUn (dM0' Txt.isascii) (xVar 0)) (xAnd (xUn (dM0' Txt.isalpha) (xVar 0)) (xUn (dM0' Txt.islower) (xVar 0))))))
def L_is_tuple_of : List Dat → M Dat := runD N_is_tuple_of.length (sRet (xAnd (xCB dIsi (xCons (xVar 0) (xCons (xC (.ty "tuple")) xNil))) (xChain dLe dLe (xVar 1) (xCB dLen (xCons (xVar 0) xNil)) (xVar 2))))
def L_is_ascending : List Dat → M Dat := runD N_is_ascending.length (sRet (xCB dAll (xCons (xLc (iZipM (xCons (xVar 0) (xCons (jSl dCutL (xVar 0) (oSome (xC (.int 1))) oNone) xNil))) (gT 2 (gCo (gN 1) (gCo (gN 2) gNl))) bYes (xOp dLtS (xVar 1) (xVar 2)) [1, 2]) xNil)))
def L_is_ascendingT : List Dat → M Dat := runD N_is_ascending.length (sRet (xCB dAll (xCons (xLc (iZipM (xCons (xVar 0) (xCons (jSl dCutT (xVar 0) (oSome (xC (.int 1))) oNone) xNil))) (gT 2 (gCo (gN 1) (gCo (gN 2) gNl))) bYes (xOp dLtS (xVar 1) (xVar 2)) [1, 2]) xNil)))
def L_Kind___init__ : List Dat → M Dat := runD N_Kind___init__.length (sSeq (sIf (bOr (bNot (bTest (xCall L_is_integer (xCons (xVar 1) xNil)))) (bOr (bNot (bTest (xCall L_is_integer (xCons (xVar 2) xNil)))) (bNot (bTest (xChain dLe dLe (xVar 1) (xC (.int 0)) (xVar 2)))))) sNo sNx)
    (sSeq (sSetFL "Kind" "low" (xVar 0) (xVar 1))
    (sSeq (sSetFL "Kind" "high" (xVar 0) (xVar 2))
    (sSetFL "Kind" "size" (xVar 0) (xOp dAdd (xOp dSub (xVar 2) (xVar 1)) (xC (.int 1)))))))
def L_Kind___le__ : List Dat → M Dat := runD N_Kind___le__.length (sSeq (sIf (bNot (bTest (xCB (dIsiI "Kind") (xCons (xVar 1) (xCons (xC (.cls "Kind")) xNil))))) sNo sNx)
    (sRet (xAnd (xOp dLe (xUn (dFldI "Kind" "low") (xVar 1)) (xUn (dFldI "Kind" "low") (xVar 0))) (xOp dLe (xUn (dFldI "Kind" "high") (xVar 0)) (xUn (dFldI "Kind" "high") (xVar 1))))))
def L_Kind___eq__ : List Dat → M Dat := runD N_Kind___eq__.length (sRet (xAnd (xCB (dIsiI "Kind") (xCons (xVar 1) (xCons (xC (.cls "Kind")) xNil))) (xAnd (xOp dEq (xUn (dFldI "Kind" "low") (xVar 0)) (xUn (dFldI "Kind" "low") (xVar 1))) (xOp dEq (xUn (dFldI "Kind" "high") (xVar 0)) (xUn (dFldI "Kind" "high") (xVar 1))))))
def L_Kind___lt__ : List Dat → M Dat := runD N_Kind___lt__.length (sSeq (sIf (bNot (bTest (xCB (dIsiI "Kind") (xCons (xVar 1) (xCons (xC (.cls "Kind")) xNil))))) sNo sNx)
    (sRet (xAnd (xOp (dOwn2 "Kind" L_Kind___le__) (xVar 0) (xVar 1)) (xNot (xOp (dOwn2 "Kind" L_Kind___eq__) (xVar 0) (xVar 1))))))
def L__are_kinds : List Dat → M Dat := runD N__are_kinds.length (sSeq (sIf (bOr (bNot (bTest (xCB (dIsiI "Kind") (xCons (xVar 0) (xCons (xC (.cls "Kind")) xNil))))) (bNot (bTest (xCB (dIsiI "Kind") (xCons (xVar 1) (xCons (xC (.cls "Kind")) xNil)))))) (sRet (xC (.bl false))) sNx)
    (sRet (xAnd (xOp (dOwn2 "Kind" L_Kind___lt__) (xVar 0) (xVar 1)) (xOp dGe (xUn (dFldI "Kind" "size") (xVar 0)) (xC (.int 16))))))
def L__are_columns : List Dat → M Dat := runD N__are_columns.length (sSeq (sIf (bOr (bNot (bTest (xCall L_is_tuple_of (xCons (xVar 0) (xCons (xC (.int 1)) (xCons (xC (.int 3)) xNil)))))) (bNot (bTest (xCB dAll (xCons (xLc (iTp (xVar 0)) (gN 1) bYes (xCall L_is_name (xCons (xVar 1) xNil)) [1]) xNil))))) (sRet (xC (.bl false))) sNx)
    (sRet (xCall L_is_ascendingT (xCons (xVar 0) xNil))))
def L__are_rows : List Dat → M Dat := runD N__are_rows.length (sSeq (sIf (bNot (bTest (xCB dIsi (xCons (xVar 1) (xCons (xC (.ty "tuple")) xNil))))) (sRet (xC (.bl false))) sNx)
    (sSeq (sFor (iTp (xVar 1)) (gN 3) (sIf (bOr (bNot (bTest (xCall L_is_tuple_of (xCons (xVar 3) (xCons (xVar 2) (xCons (xVar 2) xNil)))))) (bTest (xOp (dInS true) (xOp dIxT (xVar 3) (xC (.int 0))) (xVar 0)))) (sRet (xC (.bl false))) sNx))
    (sRet (xCall L_is_ascending (xCons (xLc (iTp (xVar 1)) (gN 3) bYes (xOp dIxT (xVar 3) (xC (.int 0))) [3]) xNil)))))
def L__is_read : List Dat → M Dat := runD N__is_read.length (sSeq (sAsg (xVar 0) (gT 3 (gCo (gN 1) (gCo (gN 2) (gCo (gN 3) gNl)))))
    (sSeq (sIf (bOr (bTest (xOp (dInS true) (xVar 2) (xC (strsT ["narrow", "wide", "either"])))) (bNot (bTest (xCB dIsi (xCons (xVar 3) (xCons (xC (.ty "tuple")) xNil)))))) (sRet (xC (.bl false))) sNx)
    (sRet (xAnd (xCB dAll (xCons (xLc (iTp (xVar 3)) (gN 4) bYes (xOp (dInS false) (xVar 4) (xC (strsT ["match", "order", "show"]))) [4]) xNil)) (xCall L_is_ascendingT (xCons (xVar 3) xNil))))))
def L__is_write : List Dat → M Dat := runD N__is_write.length (sSeq (sAsg (xVar 1) (gT 5 (gCo (gN 2) (gCo (gN 3) (gCo (gN 4) (gCo (gN 5) (gCo (gN 6) gNl)))))))
    (sSeq (sIf (bOr (bTest (xOp (dInS true) (xVar 3) (xC (strsT ["narrow", "wide", "both", "narrow first", "wide first"])))) (bOr (bTest (xOp (dInS true) (xVar 4) (xC (strsT ["cut", "empty", "refuse"])))) (bNot (bTest (xCall L_is_between (xCons (xVar 6) (xCons (xC (.int 0)) (xCons (xC (.int 99)) xNil)))))))) (sRet (xC (.bl false))) sNx)
    (sRet (xOr (xOp dEq (xVar 5) (xC (.str ""))) (xAnd (xOp (dInS false) (xVar 5) (xVar 0)) (xOp dNe (xVar 5) (xVar 2)))))))
def L__is_edition : List Dat → M Dat := runD N__is_edition.length (sSeq (sIf (bNot (bTest (xCall L_is_tuple_of (xCons (xVar 1) (xCons (xC (.int 3)) (xCons (xC (.int 3)) xNil)))))) (sRet (xC (.bl false))) sNx)
    (sSeq (sAsg (xVar 1) (gT 3 (gCo (gN 2) (gCo (gN 3) (gCo (gN 4) gNl)))))
    (sSeq (sIf (bOr (bTest (xOp (dInS true) (xVar 2) (xC (strsT ["narrow", "wide"])))) (bOr (bNot (bTest (xCall L__are_rows (xCons (xVar 0) (xCons (xVar 3) (xCons (xC (.int 3)) xNil)))))) (bNot (bTest (xCall L__are_rows (xCons (xVar 0) (xCons (xVar 4) (xCons (xC (.int 5)) xNil)))))))) (sRet (xC (.bl false))) sNx)
    (sSeq (sIf (bNot (bTest (xCB dAll (xCons (xLc (iTp (xVar 3)) (gN 6) bYes (xCall L__is_read (xCons (xVar 6) xNil)) [6]) xNil)))) (sRet (xC (.bl false))) sNx)
    (sSeq (sAsg (xLc (iTp (xVar 3)) (gN 6) bYes (xOp dIxT (xVar 6) (xC (.int 0))) [6]) (gN 5))
    (sRet (xCB dAll (xCons (xLc (iTp (xVar 4)) (gN 6) bYes (xCall L__is_write (xCons (xVar 5) (xCons (xVar 6) xNil))) [6]) xNil))))))))
def L__is_first_edition : List Dat → M Dat := runD N__is_first_edition.length (sSeq (sAsg (xVar 0) (gT 3 (gCo (gN 1) (gCo (gN 2) (gCo (gN 3) gNl)))))
    (sSeq (sIf (bNot (bTest (xCB dAll (xCons (xLc (iTp (xVar 2)) (gN 4) bYes (xOp (dInS false) (xOp dIxT (xVar 4) (xC (.int 1))) (xTup (xCons (xC (.str "narrow")) (xCons (xC (.str "either")) xNil)))) [4]) xNil)))) (sRet (xC (.bl false))) sNx)
    (sRet (xCB dAll (xCons (xLc (iTp (xVar 3)) (gN 4) bYes (xOp dEq (xOp dIxT (xVar 4) (xC (.int 1))) (xC (.str "narrow"))) [4]) xNil)))))
def L__is_program : List Dat → M Dat := runD N__is_program.length (sSeq (sIf (bNot (bTest (xCall L_is_tuple_of (xCons (xVar 1) (xCons (xC (.int 2)) (xCons (xC (.int 2)) xNil)))))) (sRet (xC (.bl false))) sNx)
    (sSeq (sAsg (xVar 1) (gT 2 (gCo (gN 2) (gCo (gN 3) gNl))))
    (sSeq (sIf (bOr (bNot (bTest (xCall L_is_name (xCons (xVar 2) xNil)))) (bNot (bTest (xCall L_is_tuple_of (xCons (xVar 3) (xCons (xC (.int 1)) (xCons (xC (.int 3)) xNil))))))) (sRet (xC (.bl false))) sNx)
    (sSeq (sIf (bNot (bTest (xCB dAll (xCons (xLc (iTp (xVar 3)) (gN 4) bYes (xCall L__is_edition (xCons (xVar 0) (xCons (xVar 4) xNil))) [4]) xNil)))) (sRet (xC (.bl false))) sNx)
    (sRet (xCall L__is_first_edition (xCons (xOp dIxT (xVar 3) (xC (.int 0))) xNil)))))))
def L__many_in_two_events : List Dat → M Dat := runD N__many_in_two_events.length (sSeq (sAsg (xC (.int 0)) (gN 1))
    (sSeq (sFor (iTp (xVar 0)) (gT 2 (gCo (gN 2) (gCo (gN 3) gNl))) (sFor (iTp (xVar 3)) (gT 3 (gCo (gN 2) (gCo (gN 2) (gCo (gN 4) gNl)))) (sAsg (xOp dAdd (xVar 1) (xCB dLen (xCons (xLc (iTp (xVar 4)) (gN 5) (bTest (xOp (dInS false) (xOp dIxT (xVar 5) (xC (.int 1))) (xC (strsT ["narrow first", "wide first"])))) (xVar 5) [5]) xNil))) (gN 1))))
    (sRet (xVar 1))))
def L__are_programs : List Dat → M Dat := runD N__are_programs.length (sSeq (sIf (bNot (bTest (xCall L_is_tuple_of (xCons (xVar 1) (xCons (xC (.int 1)) (xCons (xC (.int 3)) xNil)))))) (sRet (xC (.bl false))) sNx)
    (sSeq (sIf (bNot (bTest (xCB dAll (xCons (xLc (iTp (xVar 1)) (gN 2) bYes (xCall L__is_program (xCons (xVar 0) (xCons (xVar 2) xNil))) [2]) xNil)))) (sRet (xC (.bl false))) sNx)
    (sSeq (sIf (bNot (bTest (xCall L_is_ascending (xCons (xLc (iTp (xVar 1)) (gT 2 (gCo (gN 3) (gCo (gN 4) gNl))) bYes (xVar 3) [3, 4]) xNil)))) (sRet (xC (.bl false))) sNx)
    (sRet (xOp dLe (xCall L__many_in_two_events (xCons (xVar 1) xNil)) (xC (.int 2)))))))
def L_World___init__ : List Dat → M Dat := runD N_World___init__.length (sSeq (sAsg (xAnd (xCall L__are_kinds (xCons (xVar 1) (xCons (xVar 2) xNil))) (xAnd (xCall L__are_columns (xCons (xVar 3) xNil)) (xCall L__are_programs (xCons (xVar 3) (xCons (xVar 4) xNil))))) (gN 5))
    (sSeq (sIf (bNot (bTest (xVar 5))) sNo sNx)
    (sSeq (sSetFL "World" "narrow" (xVar 0) (xVar 1))
    (sSeq (sSetFL "World" "wide" (xVar 0) (xVar 2))
    (sSeq (sSetFL "World" "columns" (xVar 0) (xVar 3))
    (sSetFL "World" "programs" (xVar 0) (xVar 4)))))))
def L__law_take : List Dat → M Dat := runD N__law_take.length (sSeq (sIf (bTest (xOp dGt (xOp dIxLo (xVar 0) (xC (.int 0))) (xC (.int 0)))) (sSeq (sAsg (xOp dMod (xCB dInt (xCons (xOp dIxLo (xVar 0) (xC (.int 0))) xNil)) (xVar 1)) (gN 2))
    (sSeq (sSetLo 0 (xC (.int 0)) (xOp dDiv (xOp dIxLo (xVar 0) (xC (.int 0))) (xVar 1)))
    (sRet (xVar 2)))) sNx)
    (sSeq (sSetLo 0 (xC (.int 2)) (xOp dAdd (xOp dIxLo (xVar 0) (xC (.int 2))) (xC (.int 1))))
    (sSeq (sAsg (xOp dIxL (xLst (xCons (xC (.int 2147483647)) (xCons (xC (.int 2147483629)) (xCons (xC (.int 2147483587)) (xCons (xC (.int 2147483579)) (xCons (xC (.int 2147483563)) xNil)))))) (xOp dMod (xCB dInt (xCons (xOp dIxLo (xVar 0) (xC (.int 2))) xNil)) (xC (.int 5)))) (gN 3))
    (sSeq (sAsg (xOp dMod (xCB dInt (xCons (xOp dPow (xCB dInt (xCons (xOp dAdd (xOp dAdd (xOp dIxLo (xVar 0) (xC (.int 1))) (xOp dMul (xOp dMul (xC (.int 98849)) (xOp dIxLo (xVar 0) (xC (.int 2)))) (xOp dIxLo (xVar 0) (xC (.int 2))))) (xC (.int 67))) xNil)) (xC (.int 3))) xNil)) (xVar 3)) (gN 4))
    (sSeq (sAsg (xOp dMod (xCB dInt (xCons (xOp dMul (xVar 4) (xOp dAdd (xOp dMod (xCB dInt (xCons (xVar 4) xNil)) (xC (.int 10009))) (xOp dMul (xC (.int 89)) (xOp dIxLo (xVar 0) (xC (.int 2)))))) xNil)) (xC (.int 2305843009213693907))) (gN 4))
    (sRet (xOp dMod (xCB dInt (xCons (xOp dDiv (xVar 4) (xC (.int 101))) xNil)) (xVar 1))))))))
def L__law_of : List Dat → M Dat := runD N__law_of.length (sRet (xOp dIxL (xVar 1) (xCall L__law_take (xCons (xVar 0) (xCons (xCB dLen (xCons (xVar 1) xNil)) xNil)))))
def L_World___eq__ : List Dat → M Dat := runD N_World___eq__.length (sRet (xAnd (xCB (dIsiC "World" ["Kind"]) (xCons (xVar 1) (xCons (xC (.cls "World")) xNil))) (xAnd (xOp (dOwn2 "Kind" L_Kind___eq__) (xUn (dFldI "World" "narrow") (xVar 0)) (xUn (dFldI "World" "narrow") (xVar 1))) (xAnd (xOp (dOwn2 "Kind" L_Kind___eq__) (xUn (dFldI "World" "wide") (xVar 0)) (xUn (dFldI "World" "wide") (xVar 1))) (xAnd (xOp (dEqD false) (xUn (dFldI "World" "columns") (xVar 0)) (xUn (dFldI "World" "columns") (xVar 1))) (xOp (dEqD false) (xUn (dFldI "World" "programs") (xVar 0)) (xUn (dFldI "World" "programs") (xVar 1))))))))
def L_Kind___str__ : List Dat → M Dat := runD N_Kind___str__.length (sRet (xJoined [(xUn dFmt (xUn (dFldI "Kind" "low") (xVar 0))), (xC (.str "..")), (xUn dFmt (xUn (dFldI "Kind" "high") (xVar 0)))]))
def L__law_pot : List Dat → M Dat := runD N__law_pot.length (sSeq (sAsg (xIf (bTest (xOp dLt (xVar 1) (xCB dLen (xCons (xVar 0) xNil)))) (xOp dIxSc (xVar 0) (xVar 1)) (xOp dAdd (xOp dMul (xC (.int 47)) (xVar 1)) (xC (.int 31)))) (gN 2))
    (sSeq (sAsg (xOp dMul (xOp dMod (xCB dInt (xCons (xCB dAbs (xCons (xVar 2) xNil)) xNil)) (xOp dPowZ (xOp dPow (xC (.int 10)) (xC (.int 60))) (xC (.int 5)))) (xCB dInt (xCons (xOp dGe (xCB dAbs (xCons (xVar 2) xNil)) (xOp dPow (xC (.int 10)) (xC (.int 18)))) xNil))) (gN 3))
    (sRetLo (xLst (xCons (xVar 3) (xCons (xOp dMod (xCB dInt (xCons (xOp dAdd (xOp dAdd (xOp dMul (xOp dMod (xCB dInt (xCons (xVar 2) xNil)) (xC (.int 2305843009213693951))) (xC (.int 70979))) (xOp dMul (xOp dMul (xC (.int 7489)) (xVar 1)) (xVar 1))) (xC (.int 97))) xNil)) (xC (.int 2305843009213693921))) (xCons (xC (.int 0)) xNil)))))))
def L__law_ofS : List Dat → M Dat := runD N__law_of.length (sRet (xOp dIxS (xVar 1) (xCall L__law_take (xCons (xVar 0) (xCons (xCB dLenS (xCons (xVar 1) xNil)) xNil)))))
def L__law_names : List Dat → M Dat := runD N__law_names.length (sSeq (sAsg (xC (.str "abcdefghijklmnopqrstuvwxyz")) (gN 2))
    (sSeq (sAsg (xJoin (xC (.str "")) (xLc (iRg1 (xCons (xCall L__law_of (xCons (xVar 0) (xCons (xLst (xCons (xC (.int 0)) (xCons (xC (.int 0)) (xCons (xC (.int 1)) (xCons (xC (.int 3)) (xCons (xC (.int 7)) xNil)))))) xNil))) xNil)) (gN 6) bYes (xCall L__law_ofS (xCons (xVar 0) (xCons (xVar 2) xNil))) [6])) (gN 3))
    (sSeq (sAsg (xTup (xCons (xCall L__law_take (xCons (xVar 0) (xCons (xOp dAdd (xCB dLenS (xCons (xVar 3) xNil)) (xC (.int 1))) xNil))) (xCons (xCall L__law_take (xCons (xVar 0) (xCons (xC (.int 26)) xNil))) xNil))) (gT 2 (gCo (gN 4) (gCo (gN 5) gNl))))
    (sRet (xCB dSorted (xCons (xLc (iRg1 (xCons (xVar 1) xNil)) (gN 7) bYes (xCB dStrS (xCons (xOp dAddS (xOp dAddS (jSl dCutX (xVar 3) oNone (oSome (xVar 4))) (xOp dIxS (xVar 2) (xOp dMod (xCB dInt (xCons (xOp dAdd (xVar 5) (xOp dMul (xC (.int 5)) (xVar 7))) xNil)) (xC (.int 26))))) (jSl dCutX (xVar 3) (oSome (xVar 4)) oNone)) xNil)) [7]) xNil))))))
def L__law_kinds : List Dat → M Dat := runD N__law_kinds.length (sSeq (sAsg (xUn dNeg (xCall L__law_of (xCons (xVar 0) (xCons (xLst (xCons (xC (.int 0)) (xCons (xC (.int 0)) (xCons (xC (.int 0)) (xCons (xC (.int 1)) (xCons (xC (.int 8)) (xCons (xC (.int 128)) xNil))))))) xNil)))) (gN 1))
    (sSeq (sAsg (xCall L__law_of (xCons (xVar 0) (xCons (xLst (xCons (xC (.int 16)) (xCons (xC (.int 17)) (xCons (xOp dAdd (xC (.int 16)) (xCall L__law_take (xCons (xVar 0) (xCons (xC (.int 48)) xNil)))) (xCons (xC (.int 256)) (xCons (xOp dMul (xOp dPow (xC (.int 10)) (xC (.int 2))) (xOp dAdd (xC (.int 1)) (xCall L__law_take (xCons (xVar 0) (xCons (xOp dPow (xC (.int 10)) (xC (.int 7))) xNil))))) xNil)))))) xNil))) (gN 2))
    (sSeq (sAsg (xCB dMax (xCons (xC (.int 0)) (xCons (xOp dSub (xOp dAdd (xVar 1) (xVar 2)) (xC (.int 1))) xNil))) (gN 3))
    (sSeq (sAsg (xCall L__law_of (xCons (xVar 0) (xCons (xLst (xCons (xC (.int 16)) (xCons (xC (.int 33)) (xCons (xOp dAdd (xOp dSub (xVar 3) (xVar 1)) (xC (.int 1))) (xCons (xOp dAdd (xC (.int 16)) (xCall L__law_take (xCons (xVar 0) (xCons (xC (.int 400)) xNil)))) (xCons (xOp dMul (xOp dAdd (xOp dSub (xVar 3) (xVar 1)) (xC (.int 1))) (xC (.int 255))) (xCons (xOp dPow (xC (.int 10)) (xC (.int 15))) xNil))))))) xNil))) (gN 4))
    (sRet (xTup (xCons (xTup (xCons (xVar 1) (xCons (xVar 3) xNil))) (xCons (xTup (xCons (xOp dSub (xVar 1) (xCall L__law_of (xCons (xVar 0) (xCons (xLst (xCons (xC (.int 0)) (xCons (xC (.int 0)) (xCons (xC (.int 1)) (xCons (xC (.int 200)) xNil))))) xNil)))) (xCons (xOp dAdd (xVar 3) (xCB dMax (xCons (xC (.int 16)) (xCons (xVar 4) xNil)))) xNil))) xNil))))))))
def L__law_reads : List Dat → M Dat := runD N__law_reads.length (sSeq (sAsg (xNewLo (xLst xNil)) (gN 3))
    (sSeq (sFor (iTp (xVar 1)) (gN 4) (sSeq (sAsg (xTup (xCons (xCall L__law_of (xCons (xVar 0) (xCons (xVar 2) xNil))) (xCons (xCall L__law_take (xCons (xVar 0) (xCons (xC (.int 8)) xNil))) xNil))) (gT 2 (gCo (gN 5) (gCo (gN 6) gNl))))
    (sSeq (sAsg (xLc (iEnM (xCons (xLst (xCons (xC (.str "match")) (xCons (xC (.str "order")) (xCons (xC (.str "show")) xNil)))) xNil)) (gT 2 (gCo (gN 8) (gCo (gN 9) gNl))) (bTest (xOp dEq (xOp dMod (xCB dInt (xCons (xOp dDiv (xVar 6) (xOp dIxL (xLst (xCons (xC (.int 1)) (xCons (xC (.int 2)) (xCons (xC (.int 4)) xNil)))) (xVar 8))) xNil)) (xC (.int 2))) (xC (.int 1)))) (xVar 9) [8, 9]) (gN 7))
    (sIf (bTest (xOp dGt (xCall L__law_take (xCons (xVar 0) (xCons (xC (.int 4)) xNil))) (xC (.int 0)))) (sAppLo (xVar 3) (xCons (xTup (xCons (xVar 4) (xCons (xVar 5) (xCons (xCB dTuple (xCons (xVar 7) xNil)) xNil)))) xNil)) sNx))))
    (sRet (xCB dTupleLo (xCons (xVar 3) xNil)))))
def L__law_writes : List Dat → M Dat := runD N__law_writes.length (sSeq (sAsg (xNewLo (xLst xNil)) (gN 5))
    (sSeq (sFor (iTp (xVar 1)) (gN 6) (sSeq (sPar 7 8 (xCons (xCall L__law_of (xCons (xVar 0) (xCons (xVar 3) xNil))) (xCons (xCall L__law_of (xCons (xVar 0) (xCons (xLst (xCons (xC (.str "cut")) (xCons (xC (.str "empty")) (xCons (xC (.str "refuse")) xNil)))) xNil))) xNil)))
    (sSeq (sAsg (xLc (iTp (xVar 2)) (gN 11) (bTest (xOp dNe (xOp dIxT (xVar 11) (xC (.int 0))) (xVar 6))) (xOp dIxT (xVar 11) (xC (.int 0))) [11]) (gN 9))
    (sSeq (sAsg (xIf (bAnd (bTest (xOp (dEqD true) (xVar 9) (xLst xNil))) (bTest (xOp dEq (xCall L__law_take (xCons (xVar 0) (xCons (xC (.int 3)) xNil))) (xC (.int 0))))) (xCall L__law_of (xCons (xVar 0) (xCons (xVar 9) xNil))) (xC (.str ""))) (gN 10))
    (sIf (bTest (xOp dGt (xCall L__law_take (xCons (xVar 0) (xCons (xC (.int 4)) xNil))) (xC (.int 0)))) (sSeq (sIf (bTest (xOp (dInS false) (xVar 7) (xTup (xCons (xC (.str "narrow first")) (xCons (xC (.str "wide first")) xNil))))) (sSeq (sDPutLo (xVar 4) (xC (.str "late")) (xOp dAdd (xDGetLo (xVar 4) (xC (.str "late"))) (xC (.int 1))))
    (sAsg (xIf (bTest (xOp dLt (xDGetLo (xVar 4) (xC (.str "late"))) (xC (.int 3)))) (xVar 7) (xC (.str "both"))) (gN 7))) sNx)
    (sAppLo (xVar 5) (xCons (xTup (xCons (xVar 6) (xCons (xVar 7) (xCons (xVar 8) (xCons (xVar 10) (xCons (xCall L__law_take (xCons (xVar 0) (xCons (xC (.int 100)) xNil))) xNil)))))) xNil))) sNx)))))
    (sRet (xCB dTupleLo (xCons (xVar 5) xNil)))))
def L__law_edition : List Dat → M Dat := runD N__law_edition.length (sSeq (sAsg (xIf (bTest (xOp dGt (xVar 2) (xC (.int 0)))) (xLst (xCons (xC (.str "narrow")) (xCons (xC (.str "wide")) (xCons (xC (.str "wide")) (xCons (xC (.str "both")) (xCons (xC (.str "both")) (xCons (xC (.str "narrow first")) (xCons (xC (.str "wide first")) xNil)))))))) (xLst (xCons (xC (.str "narrow")) xNil))) (gN 3))
    (sSeq (sAsg (xIf (bTest (xOp dGt (xVar 2) (xC (.int 0)))) (xLst (xCons (xC (.str "narrow")) (xCons (xC (.str "wide")) (xCons (xC (.str "either")) xNil)))) (xLst (xCons (xC (.str "narrow")) (xCons (xC (.str "narrow")) (xCons (xC (.str "either")) xNil))))) (gN 4))
    (sSeq (sAsg (xIf (bTest (xOp dEq (xCall L__law_take (xCons (xVar 0) (xCons (xC (.int 2)) xNil))) (xC (.int 1)))) (xC (.str "wide")) (xC (.str "narrow"))) (gN 5))
    (sSeq (sAsg (xCall L__law_reads (xCons (xVar 0) (xCons (xDGetLo (xVar 1) (xC (.str "columns"))) (xCons (xVar 4) xNil)))) (gN 6))
    (sRet (xTup (xCons (xVar 5) (xCons (xVar 6) (xCons (xCall L__law_writes (xCons (xVar 0) (xCons (xDGetLo (xVar 1) (xC (.str "columns"))) (xCons (xVar 6) (xCons (xVar 3) (xCons (xVar 1) xNil)))))) xNil)))))))))
def L__law_world : List Dat → M Dat := runD N__law_world.length (sSeq (sAsg (xCall L__law_kinds (xCons (xVar 0) xNil)) (gT 2 (gCo (gN 2) (gCo (gN 3) gNl))))
    (sSeq (sAsg (xNewLo (xDisp [((xC (.str "late")), (xC (.int 0))), ((xC (.str "narrow")), (xVar 2)), ((xC (.str "wide")), (xVar 3)), ((xC (.str "columns")), (xCB dTuple (xCons (xCall L__law_names (xCons (xVar 0) (xCons (xOp dAdd (xC (.int 1)) (xCall L__law_take (xCons (xVar 0) (xCons (xOp dIxL (xVar 1) (xC (.int 0))) xNil)))) xNil))) xNil)))])) (gN 4))
    (sSeq (sAsg (xNewLo (xLst xNil)) (gN 5))
    (sSeq (sFor (iLst (xCall L__law_names (xCons (xVar 0) (xCons (xOp dAdd (xC (.int 1)) (xCall L__law_take (xCons (xVar 0) (xCons (xOp dIxL (xVar 1) (xC (.int 1))) xNil)))) xNil)))) (gN 6) (sSeq (sAsg (xOp dAdd (xC (.int 1)) (xCall L__law_take (xCons (xVar 0) (xCons (xOp dIxL (xVar 1) (xC (.int 2))) xNil)))) (gN 7))
    (sAppLo (xVar 5) (xCons (xTup (xCons (xVar 6) (xCons (xCB dTuple (xCons (xLc (iRg1 (xCons (xVar 7) xNil)) (gN 8) bYes (xCall L__law_edition (xCons (xVar 0) (xCons (xVar 4) (xCons (xVar 8) xNil)))) [8]) xNil)) xNil))) xNil))))
    (sSeq (sDPutLo (xVar 4) (xC (.str "programs")) (xCB dTupleLo (xCons (xVar 5) xNil)))
    (sSeq (sDPutLo (xVar 4) (xC (.str "world")) (xCall (callF (mkNew "World" L_World___init__)) (xCons (xCall (callF (mkNew "Kind" L_Kind___init__)) (xCons (xOp dIxT (xVar 2) (xC (.int 0))) (xCons (xOp dIxT (xVar 2) (xC (.int 1))) xNil))) (xCons (xCall (callF (mkNew "Kind" L_Kind___init__)) (xCons (xOp dIxT (xVar 3) (xC (.int 0))) (xCons (xOp dIxT (xVar 3) (xC (.int 1))) xNil))) (xCons (xDGetLo (xVar 4) (xC (.str "columns"))) (xCons (xDGetLo (xVar 4) (xC (.str "programs"))) xNil))))))
    (sRet (xVar 4))))))))
def L__law_ends : List Dat → M Dat := runD N__law_ends.length (sRet (xTup (xCons (xUn (dFldI "Kind" "low") (xVar 0)) (xCons (xUn (dFldI "Kind" "high") (xVar 0)) xNil))))
def L__law_others : List Dat → M Dat := runD N__law_others.length (sSeq (sPar 1 2 (xCons (xDGet (xVar 0) (xC (.str "narrow"))) (xCons (xDGet (xVar 0) (xC (.str "wide"))) xNil)))
    (sSeq (sAsg (xTup (xCons (xDGet (xVar 0) (xC (.str "columns"))) (xCons (xDGet (xVar 0) (xC (.str "programs"))) xNil))) (gT 2 (gCo (gN 3) (gCo (gN 4) gNl))))
    (sSeq (sAsg (xNewLo (xLst (xCons (xTup (xCons (xVar 1) (xCons (xTup (xCons (xOp dIxT (xVar 2) (xC (.int 0))) (xCons (xOp dAdd (xOp dIxT (xVar 2) (xC (.int 1))) (xC (.int 1))) xNil))) (xCons (xVar 3) (xCons (xVar 4) xNil))))) xNil))) (gN 5))
    (sSeq (sAppLo (xVar 5) (xCons (xTup (xCons (xVar 1) (xCons (xTup (xCons (xOp dSub (xOp dIxT (xVar 2) (xC (.int 0))) (xC (.int 1))) (xCons (xOp dIxT (xVar 2) (xC (.int 1))) xNil))) (xCons (xVar 3) (xCons (xVar 4) xNil))))) xNil))
    (sSeq (sIf (bAnd (bTest (xOp dGt (xOp dSub (xOp dIxT (xVar 1) (xC (.int 1))) (xOp dIxT (xVar 1) (xC (.int 0)))) (xC (.int 15)))) (bTest (xOp dGt (xOp dIxT (xVar 1) (xC (.int 1))) (xC (.int 0))))) (sAppLo (xVar 5) (xCons (xTup (xCons (xTup (xCons (xOp dIxT (xVar 1) (xC (.int 0))) (xCons (xOp dSub (xOp dIxT (xVar 1) (xC (.int 1))) (xC (.int 1))) xNil))) (xCons (xVar 2) (xCons (xVar 3) (xCons (xVar 4) xNil))))) xNil)) sNx)
    (sSeq (sAsg (xTup (xCons (xOp dIxT (xOp dIxT (xVar 4) (xUn dNeg (xC (.int 1)))) (xC (.int 0))) (xCons (xOp dRepB (xOp dIxT (xOp dIxT (xVar 4) (xUn dNeg (xC (.int 1)))) (xC (.int 1))) (xC (.int 2))) xNil))) (gN 6))
    (sSeq (sAppLo (xVar 5) (xCons (xTup (xCons (xVar 1) (xCons (xVar 2) (xCons (xVar 3) (xCons (xOp dCatT (jSl dCutT (xVar 4) oNone (oSome (xUn dNeg (xC (.int 1))))) (xTup (xCons (xVar 6) xNil))) xNil))))) xNil))
    (sSeq (sAsg (xTup (xCons (xOp dIxT (xVar 4) (xC (.int 0))) (xCons (xLc (iStrM (xC (.str "abz"))) (gN 17) bYes (xOp dMulS (xVar 17) (xC (.int 8))) [17]) xNil))) (gT 2 (gCo (gT 2 (gCo (gN 7) (gCo (gN 8) gNl))) (gCo (gN 9) gNl))))
    (sSeq (sAsg (xOp dIxT (xVar 8) (xC (.int 0))) (gT 3 (gCo (gN 10) (gCo (gN 11) (gCo (gN 12) gNl)))))
    (sSeq (sAsg (xTup (xCons (xIf (bTest (xOp dEq (xVar 10) (xC (.str "narrow")))) (xC (.str "wide")) (xC (.str "narrow"))) (xCons (xVar 11) (xCons (xVar 12) xNil)))) (gN 13))
    (sSeq (sAsg (xTup (xCons (xVar 7) (xCons (xOp dCatT (xTup (xCons (xVar 13) xNil)) (jSl dCutT (xVar 8) (oSome (xC (.int 1))) oNone)) xNil))) (gN 14))
    (sSeq (sAppLo (xVar 5) (xCons (xTup (xCons (xVar 1) (xCons (xVar 2) (xCons (xVar 3) (xCons (xOp dCatT (xTup (xCons (xVar 14) xNil)) (jSl dCutT (xVar 4) (oSome (xC (.int 1))) oNone)) xNil))))) xNil))
    (sSeq (sIf (bTest (xOp dLt (xCB dLen (xCons (xVar 3) xNil)) (xC (.int 3)))) (sSeq (sAsg (jSl dCutL (xLc (iLst (xVar 9)) (gN 17) (bTest (xOp (dInS true) (xVar 17) (xVar 3))) (xVar 17) [17]) oNone (oSome (xC (.int 1)))) (gN 15))
    (sSeq (sAsg (xCB dSorted (xCons (xLc (iLst (xOp dCatL (xCB dList (xCons (xVar 3) xNil)) (xVar 15))) (gN 17) bYes (xCB dStrS (xCons (xVar 17) xNil)) [17]) xNil)) (gN 16))
    (sAppLo (xVar 5) (xCons (xTup (xCons (xVar 1) (xCons (xVar 2) (xCons (xCB dTuple (xCons (xVar 16) xNil)) (xCons (xVar 4) xNil))))) xNil)))) sNx)
    (sRet (xVar 5)))))))))))))))
def L__law_late : List Dat → M Dat := runD N__law_late.length (sSeq (sAsg (xC (.int 0)) (gN 1))
    (sSeq (sFor (iTp (xVar 0)) (gT 2 (gCo (gN 2) (gCo (gN 3) gNl))) (sFor (iTp (xVar 3)) (gN 4) (sAsg (xOp dAdd (xVar 1) (xCB dLen (xCons (xLc (iTp (xOp dIxT (xVar 4) (xC (.int 2)))) (gN 5) (bTest (xOp dEq (jSl dCutX (xOp dIxT (xVar 5) (xC (.int 1))) (oSome (xUn dNeg (xC (.int 5)))) oNone) (xC (.str "first")))) (xC (.int 1)) [5]) xNil))) (gN 1))))
    (sRet (xVar 1))))
def L__law_made : List Dat → M Dat := runD N__law_made.length (sSeq (sAsg (xVar 0) (gT 4 (gCo (gN 1) (gCo (gN 2) (gCo (gN 3) (gCo (gN 4) gNl))))))
    (sRet (xCall (callF (mkNew "World" L_World___init__)) (xCons (xCall (callF (mkNew "Kind" L_Kind___init__)) (xCons (xOp dIxT (xVar 1) (xC (.int 0))) (xCons (xOp dIxT (xVar 1) (xC (.int 1))) xNil))) (xCons (xCall (callF (mkNew "Kind" L_Kind___init__)) (xCons (xOp dIxT (xVar 2) (xC (.int 0))) (xCons (xOp dIxT (xVar 2) (xC (.int 1))) xNil))) (xCons (xVar 3) (xCons (xVar 4) xNil)))))))
def L__law_right : List Dat → M Dat := runD N__law_right.length (sSeq (sAsg (xCall (callP L__law_world) (xCons (xVar 0) (xCons (xLst (xCons (xC (.int 3)) (xCons (xC (.int 3)) (xCons (xC (.int 3)) xNil)))) xNil))) (gN 1))
    (sSeq (sAsg (xTup (xCons (xDGet (xVar 1) (xC (.str "world"))) (xCons (xTup (xCons (xDGet (xVar 1) (xC (.str "narrow"))) (xCons (xDGet (xVar 1) (xC (.str "wide"))) (xCons (xDGet (xVar 1) (xC (.str "columns"))) (xCons (xDGet (xVar 1) (xC (.str "programs"))) xNil))))) xNil))) (gT 2 (gCo (gN 2) (gCo (gN 3) gNl))))
    (sSeq (sAsg (xLst (xCons (xCall L__law_ends (xCons (xUn (dFldI "World" "narrow") (xVar 2)) xNil)) (xCons (xCall L__law_ends (xCons (xUn (dFldI "World" "wide") (xVar 2)) xNil)) (xCons (xUn (dFldI "World" "columns") (xVar 2)) (xCons (xUn (dFldI "World" "programs") (xVar 2)) xNil))))) (gN 4))
    (sSeq (sIf (bTest (xOp dNe (xCB dRepr2 (xCons (xVar 4) xNil)) (xCB dRepr2 (xCons (xLst (xCons (xDGet (xVar 1) (xC (.str "narrow"))) (xCons (xDGet (xVar 1) (xC (.str "wide"))) (xCons (xDGet (xVar 1) (xC (.str "columns"))) (xCons (xDGet (xVar 1) (xC (.str "programs"))) xNil))))) xNil)))) (sRet (xC (.bl false))) sNx)
    (sSeq (sAsg (xCall (callF (mkNew "World" L_World___init__)) (xCons (xUn (dFldI "World" "narrow") (xVar 2)) (xCons (xUn (dFldI "World" "wide") (xVar 2)) (xCons (xUn (dFldI "World" "columns") (xVar 2)) (xCons (xUn (dFldI "World" "programs") (xVar 2)) xNil))))) (gN 5))
    (sSeq (sIf (bOr (bNot (bTest (xOp (dOwnA "World" ["Kind"] L_World___eq__) (xVar 2) (xCall (callF L__law_made) (xCons (xVar 3) xNil))))) (bOr (bTest (xOp (dNeA "World" ["Kind"] L_World___eq__) (xVar 2) (xVar 5))) (bNot (bTest (xOp (dOwnA "World" ["Kind"] L_World___eq__) (xVar 5) (xVar 2)))))) (sRet (xC (.bl false))) sNx)
    (sSeq (sFor (iLst (xCall (callP L__law_others) (xCons (xVar 1) xNil))) (gN 6) (sIf (bAnd (bTest (xCB dAll (xCons (xLc (iTp (xOp dIxT (xVar 6) (xC (.int 3)))) (gN 8) bYes (xOp dLt (xCB dLen (xCons (xOp dIxT (xVar 8) (xC (.int 1))) xNil)) (xC (.int 4))) [8]) xNil))) (bTest (xOp dLt (xCall L__law_late (xCons (xOp dIxT (xVar 6) (xC (.int 3))) xNil)) (xC (.int 3))))) (sIf (bOr (bTest (xOp (dOwnA "World" ["Kind"] L_World___eq__) (xCall (callF L__law_made) (xCons (xVar 6) xNil)) (xVar 2))) (bNot (bTest (xOp (dNeA "World" ["Kind"] L_World___eq__) (xCall (callF L__law_made) (xCons (xVar 6) xNil)) (xVar 2))))) (sRet (xC (.bl false))) sNx) sNx))
    (sSeq (sAsg (xLst (xCons (xVar 3) (xCons (xUn (dFldI "World" "narrow") (xVar 2)) (xCons (xC .non) (xCons (xUn (dFldI "World" "columns") (xVar 2)) (xCons (xCB (dStrI "Kind" L_Kind___str__) (xCons (xUn (dFldI "World" "narrow") (xVar 2)) xNil)) (xCons (xTup (xCons (xUn (dFldI "World" "narrow") (xVar 2)) (xCons (xUn (dFldI "World" "wide") (xVar 2)) xNil))) xNil))))))) (gN 7))
    (sRet (xOp (dEqD false) (xLc (iLst (xVar 7)) (gN 8) bYes (xOp (dOwnA "World" ["Kind"] L_World___eq__) (xVar 2) (xVar 8)) [8]) (xOp dRepL (xLst (xCons (xC (.bl false)) xNil)) (xC (.int 6)))))))))))))
def L_law : List Dat → M Dat := runD N_law.length (sSeq (sFor (iRg1 (xCons (xCB dMax (xCons (xC (.int 1)) (xCons (xCB dMin (xCons (xC (.int 3)) (xCons (xCB dLen (xCons (xVar 0) xNil)) xNil))) xNil))) xNil)) (gN 1) (sSeq (sAsg (xCall L__law_pot (xCons (xVar 0) (xCons (xVar 1) xNil))) (gN 2))
    (sIf (bNot (bTest (xCB dAll (xCons (xLc (iRg1 (xCons (xC (.int 6)) xNil)) (gN 3) bYes (xCall L__law_right (xCons (xVar 2) xNil)) [3]) xNil)))) (sRet (xC (.bl false))) sNx)))
    (sRet (xC (.bl true))))
end Zd
namespace Zd
open PySem PySem.Spec PyProof.Rows L2 Zg
def wp {α : Type} (m : M α) (S : List Dat) (C : α → List Dat → Prop) : Prop := match m S with
  | .ok a S' => C a S'
  | _ => False
section
variable {α β : Type} {S : List Dat}
theorem wp_of {m : M α} {a : α} {S' : List Dat} {C : α → List Dat → Prop} (h : m S = .ok a S') (k : C a S') : wp m S C := by unfold wp; rw [h]; exact k
theorem wp_ok {m : M α} {C : α → List Dat → Prop} (h : wp m S C) : ∃ a S', m S = .ok a S' ∧ C a S' := by
  unfold wp at h
  cases e : m S with
  | ok a S' => rw [e] at h; exact ⟨a, S', rfl, h⟩
  | er c fs S' => rw [e] at h; exact h.elim
  | bad => rw [e] at h; exact h.elim
theorem wp_bind {m : M α} {f : α → M β} {C : β → List Dat → Prop} (h : wp m S fun a S' => wp (f a) S' C) : wp (m >>= f) S C := by
  obtain ⟨a, S', e, k⟩ := wp_ok h
  show wp (M.bnd m f) S C
  unfold wp M.bnd
  rw [e]
  exact k
theorem wp_mono {m : M α} {C D : α → List Dat → Prop} (h : wp m S C) (k : ∀ a S', C a S' → D a S') : wp m S D := by
  obtain ⟨a, S', e, c⟩ := wp_ok h
  exact wp_of e (k a S' c)
theorem wp_pure {a : α} {C : α → List Dat → Prop} (h : C a S) : wp (pure a) S C := h
theorem wp_need {b : Bool} {f : Unit → M β} {C : β → List Dat → Prop} (hb : b = true) (h : wp (f ()) S C) : wp (M.need b >>= f) S C := by subst hb; exact h
theorem wp_opt {o : Option α} {a : α} {f : α → M β} {C : β → List Dat → Prop} (ho : o = some a) (h : wp (f a) S C) : wp (M.opt o >>= f) S C := by subst ho; exact h
variable {ρ : Env}
theorem wp_run {N : Nat} {b : Env → M Flow} {ds : List Dat} {C : Dat → List Dat → Prop} (h : wp (b (startE N ds)) S fun f S' => wp (outF f) S' C) : wp (runD N b ds) S C := wp_bind h
theorem wp_seq {a b : Env → M Flow} {C : Flow → List Dat → Prop} (h : wp (a ρ) S fun f S' => match f with | .nx ρ' => wp (b ρ') S' C | g => C g S') : wp (sSeq a b ρ) S C := wp_bind (wp_mono h fun f S' k => by cases f <;> exact k)
theorem wp_if {c : Env → M Bool} {a b : Env → M Flow} {C : Flow → List Dat → Prop} (h : wp (c ρ) S fun x S' => (x = true → wp (a ρ) S' C) ∧ (x = false → wp (b ρ) S' C)) : wp (sIf c a b ρ) S C := wp_bind (wp_mono h fun x S' k => by
  cases x with
  | true => exact k.1 rfl
  | false => exact k.2 rfl)
theorem wp_xif {c : Env → M Bool} {a b : Env → M Dat} {C : Dat → List Dat → Prop} (h : wp (c ρ) S fun x S' => (x = true → wp (a ρ) S' C) ∧ (x = false → wp (b ρ) S' C)) : wp (xIf c a b ρ) S C := wp_bind (wp_mono h fun x S' k => by
  cases x with
  | true => exact k.1 rfl
  | false => exact k.2 rfl)
theorem wp_asg {a : Env → M Dat} {g : Env → Dat → Option Env} {C : Flow → List Dat → Prop} (h : wp (a ρ) S fun d S' => ∃ ρ', g ρ d = some ρ' ∧ C (.nx ρ') S') : wp (sAsg a g ρ) S C := wp_bind (wp_mono h fun d S' ⟨ρ', e, k⟩ => wp_opt e k)
theorem wp_ret {a : Env → M Dat} {C : Flow → List Dat → Prop} (h : wp (a ρ) S fun d S' => C (.rt d) S') : wp (sRet a ρ) S C := wp_bind h
theorem wp_op {f : Dat → Dat → M Dat} {a b : Env → M Dat} {C : Dat → List Dat → Prop} (h : wp (a ρ) S fun x S1 => wp (b ρ) S1 fun y S2 => wp (f x y) S2 C) : wp (xOp f a b ρ) S C := wp_bind (wp_mono h fun x S1 k => wp_bind k)
theorem wp_un {f : Dat → M Dat} {a : Env → M Dat} {C : Dat → List Dat → Prop} (h : wp (a ρ) S fun x S1 => wp (f x) S1 C) : wp (xUn f a ρ) S C := wp_bind h
theorem wp_test {a : Env → M Dat} {C : Bool → List Dat → Prop} (h : wp (a ρ) S fun d S' => ∃ b, d = .bl b ∧ C b S') : wp (bTest a ρ) S C := wp_bind (wp_mono h fun d S' ⟨b, e, k⟩ => by subst e; exact k)
theorem wp_not {a : Env → M Bool} {C : Bool → List Dat → Prop} (h : wp (a ρ) S fun b S' => C (!b) S') : wp (bNot a ρ) S C := wp_bind h
theorem wp_and {a b : Env → M Bool} {C : Bool → List Dat → Prop} (h : wp (a ρ) S fun x S' => (x = true → wp (b ρ) S' C) ∧ (x = false → C false S')) : wp (bAnd a b ρ) S C := wp_bind (wp_mono h fun x S' k => by
  cases x with
  | true => exact k.1 rfl
  | false => exact k.2 rfl)
theorem wp_andV {a b : Env → M Dat} {C : Dat → List Dat → Prop} (h : wp (a ρ) S fun d S' => ∃ x, d = .bl x ∧ (x = true → wp (b ρ) S' C) ∧ (x = false → C (.bl false) S')) : wp (xAnd a b ρ) S C := wp_bind (wp_test (wp_mono h fun d S' ⟨x, e, k1, k2⟩ => ⟨x, e, by
  cases x with
  | true => exact k1 rfl
  | false => exact k2 rfl⟩))
theorem wp_orV {a b : Env → M Dat} {C : Dat → List Dat → Prop} (h : wp (a ρ) S fun d S' => ∃ x, d = .bl x ∧ (x = true → C (.bl true) S') ∧ (x = false → wp (b ρ) S' C)) : wp (xOr a b ρ) S C := wp_bind (wp_test (wp_mono h fun d S' ⟨x, e, k1, k2⟩ => ⟨x, e, by
  cases x with
  | true => exact k1 rfl
  | false => exact k2 rfl⟩))
theorem wp_notV {a : Env → M Dat} {C : Dat → List Dat → Prop} (h : wp (a ρ) S fun d S' => ∃ x, d = .bl x ∧ C (.bl (!x)) S') : wp (xNot a ρ) S C := wp_bind (wp_test (wp_mono h fun d S' ⟨x, e, k⟩ => ⟨x, e, k⟩))
theorem wp_cons {a : Env → M Dat} {l : Env → M (List Dat)} {C : List Dat → List Dat → Prop} (h : wp (a ρ) S fun x S1 => wp (l ρ) S1 fun xs S2 => C (x :: xs) S2) : wp (xCons a l ρ) S C := wp_bind (wp_mono h fun x S1 k => wp_bind (wp_mono k fun xs S2 k => k))
theorem wp_cb {f : List Dat → M Dat} {l : Env → M (List Dat)} {C : Dat → List Dat → Prop} (h : wp (l ρ) S fun ds S1 => wp (f ds) S1 C) : wp (xCB f l ρ) S C := wp_bind h
theorem wp_calm {m : M α} {C : α → List Dat → Prop} (h : wp m S C) : wp (calm m) S C := by
  obtain ⟨a, S', e, k⟩ := wp_ok h
  unfold wp calm
  rw [e]
  exact k
theorem wp_call {f : List Dat → M Dat} {l : Env → M (List Dat)} {C : Dat → List Dat → Prop} (h : wp (l ρ) S fun ds S1 => wp (f ds) S1 C) : wp (xCall f l ρ) S C := wp_bind (wp_mono h fun ds S1 k => wp_calm k)
theorem wp_tup {l : Env → M (List Dat)} {C : Dat → List Dat → Prop} (h : wp (l ρ) S fun ds S1 => ds.length ≤ 1000 ∧ C (.tup ds) S1) : wp (xTup l ρ) S C := wp_bind (wp_mono h fun ds S1 ⟨k1, k2⟩ => wp_need (decide_eq_true k1) k2)
theorem wp_lst {l : Env → M (List Dat)} {C : Dat → List Dat → Prop} (h : wp (l ρ) S fun ds S1 => ds.length ≤ 1000 ∧ C (.lst ds) S1) : wp (xLst l ρ) S C := wp_bind (wp_mono h fun ds S1 ⟨k1, k2⟩ => wp_need (decide_eq_true k1) k2)
/-- a loop: what holds of what is left to walk -/
theorem wp_for {g : Env → Dat → Option Env} {b : Env → M Flow} {C : Flow → List Dat → Prop} (I : List Dat → Env → List Dat → Prop)
    (step : ∀ d ds ρ S, I (d :: ds) ρ S → ∃ ρ1, g ρ d = some ρ1 ∧ wp (b ρ1) S fun f S' => match f with | .nx ρ2 => I ds ρ2 S' | .ct ρ2 => I ds ρ2 S' | .bk ρ2 => C (.nx ρ2) S' | .rt d => C (.rt d) S')
    (stop : ∀ ρ S, I [] ρ S → C (.nx ρ) S) : ∀ (ds : List Dat) (ρ : Env) (S : List Dat), I ds ρ S → wp (forD g b ds ρ) S C
  | [], ρ, S, h => stop ρ S h
  | d :: ds, ρ, S, h => by
    obtain ⟨ρ1, e, k⟩ := step d ds ρ S h
    unfold forD
    refine wp_opt e (wp_bind (wp_mono k fun f S' k => ?_))
    cases f with
    | nx ρ2 => exact wp_for I step stop ds ρ2 S' k
    | ct ρ2 => exact wp_for I step stop ds ρ2 S' k
    | bk ρ2 => exact k
    | rt d => exact k
/-- a comprehension without a test -/
theorem wp_comp {g : Env → Dat → Option Env} {e : Env → M Dat} {ρ : Env} (I : List Dat → List Dat → List Dat → Prop)
    (step : ∀ d ds acc S, I (d :: ds) acc S → ∃ ρ1, g ρ d = some ρ1 ∧ wp (e ρ1) S fun x S' => I ds (acc ++ [x]) S') : ∀ (ds acc : List Dat) (S : List Dat) (C : List Dat → List Dat → Prop), I ds acc S → (∀ xs S', I [] (acc ++ xs) S' → C xs S') → wp (compD g bYes e ρ ds) S C
  | [], acc, S, C, h, k => k [] S (by rw [List.append_nil]; exact h)
  | d :: ds, acc, S, C, h, k => by
    obtain ⟨ρ1, e1, h1⟩ := step d ds acc S h
    unfold compD
    refine wp_opt e1 (wp_bind (wp_pure ?_))
    rw [if_pos rfl]
    refine wp_bind (wp_mono h1 fun x S' h2 => wp_bind (wp_comp I step ds (acc ++ [x]) S' _ h2 fun xs S2 h3 => ?_))
    exact k (x :: xs) S2 (by rw [List.append_assoc] at h3; exact h3)
theorem wp_lc {it : Env → M (List Dat)} {g : Env → Dat → Option Env} {e : Env → M Dat} {vs : List Nat} {C : Dat → List Dat → Prop} (h : wp (it ρ) S fun ds S1 => ds.length ≤ 100000 ∧ wp (compD g bYes e (wipeE ρ vs) ds) S1 fun xs S2 => C (.lst xs) S2) : wp (xLc it g bYes e vs ρ) S C :=
  wp_bind (wp_mono h fun ds S1 ⟨k1, k2⟩ => wp_need (decide_eq_true k1) (wp_bind k2))
end
/-- the pot at a place among others: k takes are left -/
def Pot (i k : Nat) (S : List Dat) : Prop := ∃ o m n : Int, S[i]? = some (.lst [.int o, .int m, .int n]) ∧ 0 ≤ o ∧ 0 ≤ m ∧ m < 2305843009213693921 ∧ 0 ≤ n ∧ n + k ≤ 100000
theorem Pot.le {i k l : Nat} {S : List Dat} (h : Pot i k S) (j : l ≤ k) : Pot i l S := by
  obtain ⟨o, m, n, a, b, c, d, e, f⟩ := h
  exact ⟨o, m, n, a, b, c, d, e, by omega⟩
/-- all places but the pot's stand as they stood, new ones may have come -/
def FrS (i : Nat) (S S' : List Dat) : Prop := S.length ≤ S'.length ∧ ∀ j, j < S.length → j ≠ i → S'[j]? = S[j]?
theorem FrS.refl {i : Nat} {S : List Dat} : FrS i S S := ⟨Nat.le_refl _, fun _ _ _ => rfl⟩
theorem FrS.trans {i : Nat} {S S1 S2 : List Dat} (h : FrS i S S1) (k : FrS i S1 S2) : FrS i S S2 := ⟨Nat.le_trans h.1 k.1, fun j l n => (k.2 j (by have := h.1; omega) n).trans (h.2 j l n)⟩
theorem FrS.set {i : Nat} {S : List Dat} {d : Dat} : FrS i S (S.set i d) := ⟨by rw [List.length_set]; exact Nat.le_refl _, fun j _ n => List.getElem?_set_ne fun e => n e.symm⟩
theorem FrS.get {i j : Nat} {S S' : List Dat} {d : Dat} (h : FrS i S S') (e : S[j]? = some d) (n : j ≠ i) : S'[j]? = some d := by
  rw [h.2 j (List.getElem?_eq_some_iff.mp e).1 n]
  exact e
theorem FrS.push {i : Nat} {S : List Dat} {d : Dat} : FrS i S (S ++ [d]) := ⟨by rw [List.length_append]; omega, fun j l _ => List.getElem?_append_left l⟩
theorem Pot.push {i k : Nat} {S : List Dat} {d : Dat} (h : Pot i k S) : Pot i k (S ++ [d]) := by
  obtain ⟨o, m, n, e, r⟩ := h
  exact ⟨o, m, n, by rw [List.getElem?_append_left (List.getElem?_eq_some_iff.mp e).1]; exact e, r⟩
theorem Pot.other {i j k : Nat} {S : List Dat} {d : Dat} (h : Pot i k S) (n : j ≠ i) : Pot i k (S.set j d) := by
  obtain ⟨o, m, n', e, r⟩ := h
  exact ⟨o, m, n', by rw [List.getElem?_set_ne n]; exact e, r⟩
theorem ixLo_of {S : List Dat} {i : Nat} {xs : List Dat} {k : Int} {x : Dat} (h : S[i]? = some (.lst xs)) (e : atI xs k = some x) : dIxLo (.loc i) (.int k) S = .ok x S := by
  show (match S[i]? with | some (.lst xs) => M.opt (atI xs k) S | _ => .bad) = _
  rw [h]
  show M.opt (atI xs k) S = _
  rw [e]
  rfl
theorem setLo_of {S : List Dat} {i q : Nat} {xs : List Dat} {k : Int} {x : Dat} {ρ : Env} (h : S[i]? = some (.lst xs)) (e : ixN xs.length k = some q) : setLo i k x ρ S = .ok (.nx ρ) (S.set i (.lst (xs.set q x))) := by
  unfold setLo
  rw [h]
  dsimp only
  rw [e]
theorem wp_setLo {S : List Dat} {ρ : Env} {j i q : Nat} {b a : Env → M Dat} {xs : List Dat} {k : Int} {C : Flow → List Dat → Prop} (ei : ρ[j]? = some (some (.loc i))) (h : wp (a ρ) S fun x S1 => wp (b ρ) S1 fun y S2 => y = .int k ∧ S2[i]? = some (.lst xs) ∧ ixN xs.length k = some q ∧ C (.nx ρ) (S2.set i (.lst (xs.set q x)))) : wp (sSetLo j b a ρ) S C := by
  have el : locAt ρ j = some i := by unfold locAt; rw [ei]
  refine wp_bind (wp_mono h fun x S1 h => wp_opt el (wp_bind (wp_mono h fun y S2 h => ?_)))
  obtain ⟨rfl, h1, h2, h3⟩ := h
  exact wp_opt rfl (wp_of (setLo_of h1 h2) h3)
theorem set_get {S : List Dat} {i : Nat} {d e : Dat} (h : S[i]? = some e) : (S.set i d)[i]? = some d := List.getElem?_set_self (List.getElem?_eq_some_iff.mp h).1
theorem w_mod {S : List Dat} {i j : Int} {C : Dat → List Dat → Prop} (hj : 0 < j) (h : C (.int (i % j)) S) : wp (dMod (.int i) (.int j)) S C := wp_need (decide_eq_true hj) h
theorem w_div {S : List Dat} {i j : Int} {C : Dat → List Dat → Prop} (hj : 0 < j) (h2 : j < 2 ^ 200) (h : C (.int (i / j)) S) : wp (dDiv (.int i) (.int j)) S C := wp_need (by simp only [Bool.and_eq_true, decide_eq_true_eq]; exact ⟨hj, h2⟩) h
theorem w_mul {S : List Dat} {i j : Int} {C : Dat → List Dat → Prop} (c : (-(2 ^ 64) < i ∧ i < 2 ^ 64) ∨ (-(2 ^ 64) < j ∧ j < 2 ^ 64)) (h : C (.int (i * j)) S) : wp (dMul (.int i) (.int j)) S C := wp_need (by unfold bMul; simp only [Bool.or_eq_true, Bool.and_eq_true, decide_eq_true_eq]; exact c) h
theorem w_pow {S : List Dat} {i j : Int} {C : Dat → List Dat → Prop} (c : 0 ≤ j ∧ j ≤ 1000000) (d : i.natAbs < 2 ^ 64) (h : C (.int (i ^ j.toNat)) S) : wp (dPow (.int i) (.int j)) S C := wp_need (by unfold bPow; simp only [Bool.and_eq_true, decide_eq_true_eq]; exact ⟨c, d⟩) h
theorem w_add {S : List Dat} {i j : Int} {C : Dat → List Dat → Prop} (h : C (.int (i + j)) S) : wp (dAdd (.int i) (.int j)) S C := h
theorem w_sub {S : List Dat} {i j : Int} {C : Dat → List Dat → Prop} (h : C (.int (i - j)) S) : wp (dSub (.int i) (.int j)) S C := h
theorem w_int {S : List Dat} {i : Int} {C : Dat → List Dat → Prop} (h : C (.int i) S) : wp (dInt [.int i]) S C := h
theorem wp_nil {S : List Dat} {ρ : Env} {C : List Dat → List Dat → Prop} (h : C [] S) : wp (xNil ρ) S C := h
theorem wp_c {S : List Dat} {ρ : Env} {d : Dat} {C : Dat → List Dat → Prop} (h : C d S) : wp (xC d ρ) S C := h
theorem wp_var {S : List Dat} {ρ : Env} {i : Nat} {d : Dat} {C : Dat → List Dat → Prop} (e : ρ[i]? = some (some d)) (h : C d S) : wp (xVar i ρ) S C := by unfold xVar; rw [e]; exact h
theorem at_nat {α : Type} {xs : List α} {r : Int} (h0 : 0 ≤ r) (h1 : r < xs.length) : ∃ x, atI xs r = some x ∧ x ∈ xs := by
  obtain ⟨n, rfl⟩ : ∃ n : Nat, r = n := ⟨r.toNat, (Int.toNat_of_nonneg h0).symm⟩
  have lt : n < xs.length := by omega
  refine ⟨xs[n], ?_, List.getElem_mem lt⟩
  unfold atI ixN
  have e : ¬ ((n : Int) < 0) := by omega
  simp [e, lt]
theorem wp_par3 {S : List Dat} {ρ : Env} {i j k : Nat} {l : Env → M (List Dat)} {C : Flow → List Dat → Prop} (h : wp (l ρ) S fun ds S' => ∃ a b c, ds = [a, b, c] ∧ C (.nx (((ρ.set i (some a)).set j (some b)).set k (some c))) S') : wp (sPar3 i j k l ρ) S C := wp_bind (wp_mono h fun ds S' ⟨a, b, c, e, q⟩ => by subst e; exact q)
theorem wp_par {S : List Dat} {ρ : Env} {i j : Nat} {l : Env → M (List Dat)} {C : Flow → List Dat → Prop} (h : wp (l ρ) S fun ds S' => ∃ a b, ds = [a, b] ∧ C (.nx ((ρ.set i (some a)).set j (some b))) S') : wp (sPar i j l ρ) S C := wp_bind (wp_mono h fun ds S' ⟨a, b, e, q⟩ => by subst e; exact q)
theorem powz {S : List Dat} : dPowZ (.int (10 ^ 60)) (.int 5) S = .ok (.int ((10 ^ 60) ^ 5)) S := by
  have h : bPowZ (10 ^ 60) 5 = true := by decide +kernel
  show (M.need (bPowZ (10 ^ 60) 5) >>= fun _ => pure (Dat.int ((10 ^ 60) ^ (5 : Int).toNat)) : M Dat) S = _
  rw [h]
  rfl
theorem pow60 {S : List Dat} : dPow (.int 10) (.int 60) S = .ok (.int (10 ^ 60)) S := by
  have h : bPow 10 60 = true := by decide +kernel
  show (M.need (bPow 10 60) >>= fun _ => pure (Dat.int (10 ^ (60 : Int).toNat)) : M Dat) S = _
  rw [h]
  rfl
theorem pow18 {S : List Dat} : dPow (.int 10) (.int 18) S = .ok (.int (10 ^ 18)) S := by
  have h : bPow 10 18 = true := by decide +kernel
  show (M.need (bPow 10 18) >>= fun _ => pure (Dat.int (10 ^ (18 : Int).toNat)) : M Dat) S = _
  rw [h]
  rfl
abbrev potOwn : Env → M Dat := xOp dMul (xOp dMod (xCB dInt (xCons (xCB dAbs (xCons (xVar 2) xNil)) xNil)) (xOp dPowZ (xOp dPow (xC (.int 10)) (xC (.int 60))) (xC (.int 5)))) (xCB dInt (xCons (xOp dGe (xCB dAbs (xCons (xVar 2) xNil)) (xOp dPow (xC (.int 10)) (xC (.int 18)))) xNil))
theorem w_own {ns : List Int} {i c : Int} {S : List Dat} {C : Dat → List Dat → Prop} (q : ∀ o : Int, 0 ≤ o → C (.int o) S) : wp (potOwn [some (.scr ns), some (.int i), some (.int c), none]) S C := by
  refine wp_op (wp_op (wp_of (a := .int (if c < 0 then -c else c)) (S' := S) rfl ?_))
  refine wp_op (wp_op (wp_of (a := .int 10) (S' := S) rfl (wp_of (a := .int 60) (S' := S) rfl (wp_of pow60 ?_))))
  refine wp_of (a := .int 5) (S' := S) rfl (wp_of powz ?_)
  have p : (0 : Int) < (10 ^ 60) ^ 5 := by decide +kernel
  generalize ((10 : Int) ^ 60) ^ 5 = T at p ⊢
  refine w_mod p ?_
  refine wp_cb (wp_cons (wp_op (wp_of (a := .int (if c < 0 then -c else c)) (S' := S) rfl ?_)))
  refine wp_op (wp_of (a := .int 10) (S' := S) rfl (wp_of (a := .int 18) (S' := S) rfl (wp_of pow18 ?_)))
  refine wp_of (a := .bl (decide ((10 ^ 18 : Int) ≤ (if c < 0 then -c else c)))) (S' := S) rfl (wp_nil ?_)
  refine wp_of (a := .int (if decide ((10 ^ 18 : Int) ≤ (if c < 0 then -c else c)) then 1 else 0)) (S' := S) rfl ?_
  have a0 : 0 ≤ (if c < 0 then -c else c) % T := Int.emod_nonneg _ (by omega)
  generalize (if c < 0 then -c else c) % T = A at a0 ⊢
  generalize decide ((10 ^ 18 : Int) ≤ (if c < 0 then -c else c)) = b
  cases b with
  | true => exact w_mul (.inr (by decide)) (q _ (Int.mul_nonneg a0 (by decide)))
  | false => exact w_mul (.inr (by decide)) (q _ (Int.mul_nonneg a0 (by decide)))
theorem scr_at {ns : List Int} {i : Nat} {S : List Dat} (h : i < ns.length) : ∃ c, dIxSc (.scr ns) (.int (i : Int)) S = .ok (.int c) S := by
  refine ⟨ns[i], ?_⟩
  have e : atI ns (i : Int) = some ns[i] := by
    unfold atI ixN
    have : (i : Int) < (ns.length : Int) := by omega
    simp [this, h]
  show (M.opt (atI ns (i : Int)) >>= fun n => pure (Dat.int n) : M Dat) S = _
  rw [e]
  rfl
abbrev potMid : Env → M Dat := (xOp dMod (xCB dInt (xCons (xOp dAdd (xOp dAdd (xOp dMul (xOp dMod (xCB dInt (xCons (xVar 2) xNil)) (xC (.int 2305843009213693951))) (xC (.int 70979))) (xOp dMul (xOp dMul (xC (.int 7489)) (xVar 1)) (xVar 1))) (xC (.int 97))) xNil)) (xC (.int 2305843009213693921)))
theorem w_mid {a0 : Option Dat} {o i c : Int} {S : List Dat} {C : Dat → List Dat → Prop} (ih : -(2 ^ 64) < i ∧ i < 2 ^ 64) (q : ∀ m : Int, 0 ≤ m → m < 2305843009213693921 → C (.int m) S) : wp (potMid [a0, some (.int i), some (.int c), some (.int o)]) S C := by
  refine wp_op (wp_cb (wp_cons (wp_op (wp_op (wp_op (wp_op (wp_of (a := .int c) (S' := S) rfl (wp_of (a := .int 2305843009213693951) (S' := S) rfl ?_))))))))
  refine w_mod (by decide) ?_
  have b0 : 0 ≤ c % 2305843009213693951 := Int.emod_nonneg _ (by decide)
  have b1 : c % 2305843009213693951 < 2305843009213693951 := Int.emod_lt_of_pos _ (by decide)
  generalize c % 2305843009213693951 = r at b0 b1 ⊢
  refine wp_of (a := .int 70979) (S' := S) rfl (w_mul (.inr (by decide)) ?_)
  generalize r * 70979 = w
  refine wp_op ?_
  refine wp_op ?_
  refine wp_of (a := .int 7489) (S' := S) rfl ?_
  refine wp_of (a := .int i) (S' := S) rfl ?_
  refine w_mul (i := 7489) (j := i) (.inl ⟨by decide, by decide⟩) ?_
  refine wp_of (a := .int i) (S' := S) rfl (w_mul (.inr ih) (w_add ?_))
  refine wp_of (a := .int 97) (S' := S) rfl (w_add ?_)
  refine wp_nil (w_int ?_)
  refine wp_of (a := .int 2305843009213693921) (S' := S) rfl (w_mod (by decide) ?_)
  generalize hm : (w + 7489 * i * i + 97) % 2305843009213693921 = m
  have m0 : 0 ≤ m := hm ▸ Int.emod_nonneg _ (by decide)
  have m1 : m < 2305843009213693921 := hm ▸ Int.emod_lt_of_pos _ (by decide)
  exact q m m0 m1
theorem intsD_len {lo : Int} {n : Nat} : (intsD lo n).length = n := by unfold intsD; rw [List.length_map, List.length_range]
/-- a call in an empty store, of known answer -/
theorem callF_ok {F : List Dat → M Dat} {ds : List Dat} {d e : Dat} {S' : List Dat} (nl : noLocs ds = true) (h : F ds [] = .ok d S') (z : frz S' 40 d = some e) (S : List Dat) : callF F ds S = .ok e S := by
  unfold callF
  rw [nl]
  dsimp only
  rw [h]
  dsimp only
  rw [z]
theorem loop_it (ns : List Int) (r : Env) : ∃ t : Nat, (iRg1 (xCons (xCB dMax (xCons (xC (.int 1)) (xCons (xCB dMin (xCons (xC (.int 3)) (xCons (xCB dLen (xCons (xVar 0) xNil)) xNil))) xNil))) xNil) (some (.scr ns) :: r)) [] = .ok (intsD 0 t) [] ∧ t ≤ 3 := by
  generalize hj : (if (if ((ns.length : Nat) : Int) < 3 then ((ns.length : Nat) : Int) else 3) > 1 then (if ((ns.length : Nat) : Int) < 3 then ((ns.length : Nat) : Int) else 3) else 1) = j
  have j3 : 0 ≤ j ∧ j ≤ 3 := by subst hj; split <;> (try split) <;> omega
  refine ⟨j.toNat, ?_, by omega⟩
  have e : (iRg1 (xCons (xCB dMax (xCons (xC (.int 1)) (xCons (xCB dMin (xCons (xC (.int 3)) (xCons (xCB dLen (xCons (xVar 0) xNil)) xNil))) xNil))) xNil) (some (.scr ns) :: r)) [] = (M.need (decide (-(2 ^ 62) ≤ j ∧ j < 2 ^ 62)) >>= fun _ => pure (intsD 0 j.toNat) : M (List Dat)) [] := by rw [← hj]; rfl
  rw [e, decide_eq_true (by omega)]
  rfl
end Zd
namespace Zd
open PySem PySem.Spec PyProof.Rows L2 Zg
theorem map_eq {α β : Type} {f g : α → β} : ∀ {l : List α}, l.map f = l.map g → ∀ x, x ∈ l → f x = g x
  | [], _, x, h => nomatch h
  | a :: l, e, x, h => by
    have e1 : f a :: l.map f = g a :: l.map g := e
    injection e1 with e2 e3
    rcases List.mem_cons.mp h with h | h
    · rw [h]; exact e2
    · exact map_eq e3 x h
section
variable {S S' S1 : List Dat} {ρ ρ' : Env}
theorem run_at {N : Nat} {b : Env → M Flow} {ds : List Dat} {d : Dat} (h : b (startE N ds) S = .ok (.rt d) S') : runD N b ds S = .ok d S' := by
  unfold runD
  rw [m_bind, h] <;> rfl
theorem seq_at {a b : Env → M Flow} (h : a ρ S = .ok (.nx ρ') S') : sSeq a b ρ S = b ρ' S' := by
  unfold sSeq
  rw [m_bind, h] <;> rfl
theorem if_f {c : Env → M Bool} {a b : Env → M Flow} (h : c ρ S = .ok false S') : sIf c a b ρ S = b ρ S' := by
  unfold sIf
  rw [m_bind, h] <;> rfl
theorem if_t {c : Env → M Bool} {a b : Env → M Flow} (h : c ρ S = .ok true S') : sIf c a b ρ S = a ρ S' := by
  unfold sIf
  rw [m_bind, h] <;> rfl
theorem ret_at {a : Env → M Dat} {d : Dat} (h : a ρ S = .ok d S') : sRet a ρ S = .ok (.rt d) S' := by
  unfold sRet
  rw [m_bind, h] <;> rfl
theorem not_at {a : Env → M Bool} {b : Bool} (h : a ρ S = .ok b S') : bNot a ρ S = .ok (!b) S' := by
  unfold bNot
  rw [m_bind, h] <;> rfl
theorem test_at {a : Env → M Dat} {b : Bool} (h : a ρ S = .ok (.bl b) S') : bTest a ρ S = .ok b S' := by
  unfold bTest
  rw [m_bind, h] <;> rfl
theorem or_f {a b : Env → M Bool} (h : a ρ S = .ok false S') : bOr a b ρ S = b ρ S' := by
  unfold bOr
  rw [m_bind, h] <;> rfl
theorem and_t {a b : Env → M Dat} (h : a ρ S = .ok (.bl true) S') : xAnd a b ρ S = b ρ S' := by
  unfold xAnd
  rw [m_bind, test_at h] <;> rfl
theorem or_fV {a b : Env → M Dat} (h : a ρ S = .ok (.bl false) S') : xOr a b ρ S = b ρ S' := by
  unfold xOr
  rw [m_bind, test_at h] <;> rfl
theorem calm_at {m : M Dat} {d : Dat} (h : m S = .ok d S') : calm m S = .ok d S' := by
  unfold calm
  rw [h]
theorem call_at {f : List Dat → M Dat} {l : Env → M (List Dat)} {ds : List Dat} {d : Dat} (hl : l ρ S = .ok ds S1) (h : f ds S1 = .ok d S') : xCall f l ρ S = .ok d S' := by
  unfold xCall
  rw [m_bind, hl]
  exact calm_at h
theorem cb_at {f : List Dat → M Dat} {l : Env → M (List Dat)} {ds : List Dat} {d : Dat} (hl : l ρ S = .ok ds S1) (h : f ds S1 = .ok d S') : xCB f l ρ S = .ok d S' := by
  unfold xCB
  rw [m_bind, hl] <;> exact h
theorem op_at {f : Dat → Dat → M Dat} {a b : Env → M Dat} {x y d : Dat} (ha : a ρ S = .ok x S) (hb : b ρ S = .ok y S) (h : f x y S = .ok d S) : xOp f a b ρ S = .ok d S := by
  unfold xOp
  rw [m_bind, ha]
  show ((b ρ >>= fun y => f x y) : M Dat) S = _
  rw [m_bind, hb] <;> exact h
theorem one_at {a : Env → M Dat} {x : Dat} (h : a ρ S = .ok x S) : xCons a xNil ρ S = .ok [x] S := by
  unfold xCons
  rw [m_bind, h] <;> rfl
theorem comp_at {f : Dat → Dat} {e : Env → M Dat} {i : Nat} : ∀ {ds : List Dat}, (∀ d, d ∈ ds → e (ρ.set i (some d)) S = .ok (f d) S) → compD (gN i) bYes e ρ ds S = .ok (ds.map f) S
  | [], _ => rfl
  | d :: ds, h => by
    have h1 := h d List.mem_cons_self
    have h2 := comp_at (f := f) (e := e) (i := i) fun d hd => h d (List.mem_cons_of_mem _ hd)
    unfold compD
    show ((e (ρ.set i (some d)) >>= fun x => compD (gN i) bYes e ρ ds >>= fun xs => pure (x :: xs)) : M (List Dat)) S = _
    rw [m_bind, h1]
    show ((compD (gN i) bYes e ρ ds >>= fun xs => pure (f d :: xs)) : M (List Dat)) S = _
    rw [m_bind, h2] <;> rfl
theorem lc_at {f : Dat → Dat} {it : Env → M (List Dat)} {e : Env → M Dat} {i : Nat} {vs : List Nat} {ds : List Dat} (hi : it ρ S = .ok ds S) (hl : ds.length ≤ 1000) (h : ∀ d, d ∈ ds → e ((wipeE ρ vs).set i (some d)) S = .ok (f d) S) :
    xLc it (gN i) bYes e vs ρ S = .ok (.lst (ds.map f)) S := by
  unfold xLc
  rw [m_bind, hi]
  show ((M.need (decide (ds.length ≤ 100000)) >>= fun _ => compD (gN i) bYes e (wipeE ρ vs) ds >>= fun es => pure (.lst es)) : M Dat) S = _
  rw [decide_eq_true (show ds.length ≤ 100000 by omega)]
  show ((compD (gN i) bYes e (wipeE ρ vs) ds >>= fun es => pure (.lst es)) : M Dat) S = _
  rw [m_bind, comp_at h] <;> rfl
theorem bls_true : ∀ ds : List Dat, blsOf (ds.map fun _ => .bl true) = some (ds.map fun _ => true)
  | [] => rfl
  | d :: r => by
    rw [List.map_cons]
    unfold blsOf
    rw [bls_true r] <;> rfl
theorem all_at {it : Env → M (List Dat)} {e : Env → M Dat} {i : Nat} {vs : List Nat} {ds : List Dat} (hi : it ρ S = .ok ds S) (hl : ds.length ≤ 1000) (h : ∀ d, d ∈ ds → e ((wipeE ρ vs).set i (some d)) S = .ok (.bl true) S) :
    xCB dAll (xCons (xLc it (gN i) bYes e vs) xNil) ρ S = .ok (.bl true) S := by
  refine cb_at (one_at (lc_at (f := fun _ => .bl true) hi hl h)) ?_
  show ((M.opt (blsOf (ds.map fun _ => .bl true)) >>= fun bs => pure (.bl (bs.all id))) : M Dat) S = _
  rw [bls_true]
  show Out.ok (Dat.bl ((ds.map fun _ => true).all id)) S = _
  have e : (ds.map fun _ => true).all id = true := by
    rw [List.all_eq_true]
    intro x hx
    obtain ⟨_, _, rfl⟩ := List.mem_map.mp hx
    rfl
  rw [e]
/-- a loop that only looks -/
theorem for_at {b : Env → M Flow} {i : Nat} : ∀ {ds : List Dat} {ρ : Env}, (∀ d, d ∈ ds → b (ρ.set i (some d)) S = .ok (.nx (ρ.set i (some d))) S) → ∃ ρ', forD (gN i) b ds ρ S = .ok (.nx ρ') S ∧ ρ'.set i none = ρ.set i none
  | [], ρ, _ => ⟨ρ, rfl, rfl⟩
  | d :: ds, ρ, h => by
    obtain ⟨ρ', e, k⟩ := for_at (b := b) (i := i) (ds := ds) (ρ := ρ.set i (some d)) fun x hx => by
      rw [List.set_set]
      exact h x (List.mem_cons_of_mem _ hx)
    refine ⟨ρ', ?_, by rw [k, List.set_set]⟩
    unfold forD
    show ((b (ρ.set i (some d)) >>= fun f => match f with | .nx ρ2 => forD (gN i) b ds ρ2 | .ct ρ2 => forD (gN i) b ds ρ2 | .bk ρ2 => pure (.nx ρ2) | .rt d => pure (.rt d)) : M Flow) S = _
    rw [m_bind, h d List.mem_cons_self]
    exact e
theorem sfor_at {it : Env → M (List Dat)} {g : Env → Dat → Option Env} {b : Env → M Flow} {ds : List Dat} {f : Flow} (hi : it ρ S = .ok ds S) (h : forD g b ds ρ S = .ok f S') : sFor it g b ρ S = .ok f S' := by
  unfold sFor
  rw [m_bind, hi] <;> exact h
theorem strsD_map : ∀ ss : List Str, strsD (ss.map .str) = some ss
  | [] => rfl
  | s :: r => by
    rw [List.map_cons]
    unfold strsD
    rw [strsD_map r] <;> rfl
end
section
variable {S S' S1 : List Dat} {ρ ρ' : Env}
theorem asg_at {a : Env → M Dat} {g : Env → Dat → Option Env} {d : Dat} {ρ' : Env} (h : a ρ S = .ok d S) (e : g ρ d = some ρ') : sAsg a g ρ S = .ok (.nx ρ') S := by
  unfold sAsg
  rw [m_bind, h]
  show ((M.opt (g ρ d) >>= fun ρ' => pure (.nx ρ')) : M Flow) S = _
  rw [e] <;> rfl
theorem eqS_at {a b : Str} : dEq (.str a) (.str b) S = .ok (.bl (decide (a = b))) S := by
  show Out.ok (Dat.bl (decide (V.str a = V.str b))) S = _
  have e : decide (V.str a = V.str b) = decide (a = b) := by
    by_cases h : a = b
    · rw [decide_eq_true h, decide_eq_true (congrArg V.str h)]
    · rw [decide_eq_false h, decide_eq_false fun z => h (V.str.inj z)]
  rw [e]
theorem eqI_at {i j : Int} {S : List Dat} : dEq (.int i) (.int j) S = .ok (.bl (decide (i = j))) S := by
  show Out.ok (Dat.bl (decide (V.int i = V.int j))) S = _
  have e : decide (V.int i = V.int j) = decide (i = j) := by
    by_cases h : i = j
    · rw [decide_eq_true h, decide_eq_true (congrArg V.int h)]
    · rw [decide_eq_false h, decide_eq_false fun z => h (V.int.inj z)]
  rw [e]
theorem cons_at {a : Env → M Dat} {l : Env → M (List Dat)} {x : Dat} {xs : List Dat} {S1 S2 : List Dat} (ha : a ρ S = .ok x S1) (hl : l ρ S1 = .ok xs S2) : xCons a l ρ S = .ok (x :: xs) S2 := by
  unfold xCons
  rw [m_bind, ha]
  dsimp only
  rw [m_bind, hl] <;> rfl
theorem app_at {o : Env → M Dat} {l : Env → M (List Dat)} {n : Nat} {xs : List Dat} {x : Dat} (ho : o ρ S = .ok (.loc n) S) (e : S[n]? = some (.lst xs)) (hl : l ρ S = .ok [x] S) (lt : xs.length < 100000) : sAppLo o l ρ S = .ok (.nx ρ) (S.set n (.lst (xs ++ [x]))) := by
  unfold sAppLo
  rw [m_bind, ho]
  show (needL n >>= fun _ => l ρ >>= fun ds => M.opt (one ds) >>= fun d => appLo n d ρ : M Flow) S = _
  have hn : needL n S = .ok () S := by unfold needL isLst; rw [e]
  rw [m_bind, hn]
  dsimp only
  rw [m_bind, hl]
  show appLo n x ρ S = _
  unfold appLo
  rw [e]
  dsimp only
  rw [decide_eq_true lt]
theorem bls_map : ∀ bs : List Bool, blsOf (bs.map .bl) = some bs
  | [] => rfl
  | b :: r => by rw [List.map_cons]; unfold blsOf; rw [bls_map r]; rfl
theorem all_of {bs : List Bool} {S : List Dat} : dAll [.lst (bs.map .bl)] S = .ok (.bl (bs.all id)) S := by
  unfold dAll
  simp only [bls_map]
  rfl
theorem and_b {a b : Env → M Dat} {x y : Bool} (ha : a ρ S = .ok (.bl x) S) (hb : b ρ S = .ok (.bl y) S) : xAnd a b ρ S = .ok (.bl (x && y)) S := by
  unfold xAnd
  rw [m_bind, test_at ha]
  cases x
  · rfl
  · exact hb
theorem xif_b {c : Env → M Bool} {a b : Env → M Dat} {x : Bool} (hc : c ρ S = .ok x S) : xIf c a b ρ S = cond x (a ρ S) (b ρ S) := by
  unfold xIf
  rw [m_bind, hc]
  cases x <;> rfl
theorem ch2 {a b c : Env → M Dat} {i j k : Int} (ha : a ρ S = .ok (.int i) S) (hb : b ρ S = .ok (.int j) S) (hc : c ρ S = .ok (.int k) S) : xChain dLe dLe a b c ρ S = .ok (.bl (decide (i ≤ j) && decide (j ≤ k))) S := by
  unfold xChain
  rw [m_bind, ha]
  dsimp only
  rw [m_bind, hb]
  show (if decide (i ≤ j) = true then (c ρ >>= fun u => dLe (.int j) u) else pure (.bl false) : M Dat) S = _
  generalize decide (i ≤ j) = u
  cases u
  · rfl
  · rw [if_pos rfl, m_bind, hc]
    rfl
theorem xlc_at {it : Env → M (List Dat)} {g : Env → Dat → Option Env} {c : Env → M Bool} {e : Env → M Dat} {vs : List Nat} {ds es : List Dat} (hi : it ρ S = .ok ds S) (hl : ds.length ≤ 1000) (h : compD g c e (wipeE ρ vs) ds S = .ok es S) : xLc it g c e vs ρ S = .ok (.lst es) S := by
  unfold xLc
  rw [m_bind, hi]
  show ((M.need (decide (ds.length ≤ 100000)) >>= fun _ => compD g c e (wipeE ρ vs) ds >>= fun es => pure (.lst es)) : M Dat) S = _
  rw [decide_eq_true (show ds.length ≤ 100000 by omega)]
  show ((compD g c e (wipeE ρ vs) ds >>= fun es => pure (.lst es)) : M Dat) S = _
  rw [m_bind, h] <;> rfl
theorem catT_ok {xs ys : List Dat} (l : xs.length + ys.length ≤ 100000) : dCatT (.tup xs) (.tup ys) S = .ok (.tup (xs ++ ys)) S := by
  show (M.need (decide (xs.length + ys.length ≤ 100000)) >>= fun _ => pure (Dat.tup (xs ++ ys)) : M Dat) S = _
  rw [decide_eq_true l]
  rfl
/-- a comprehension that keeps some, any target -/
theorem comp_fmG {g : Env → Dat → Option Env} {c : Env → M Bool} {e : Env → M Dat} {F : Dat → Option Dat} : ∀ {ds : List Dat}, (∀ d, d ∈ ds → ∃ ρ1, g ρ d = some ρ1 ∧ c ρ1 S = .ok (F d).isSome S ∧ ∀ y, F d = some y → e ρ1 S = .ok y S) → compD g c e ρ ds S = .ok (ds.filterMap F) S
  | [], _ => rfl
  | d :: ds, h => by
    have ih := comp_fmG (g := g) (c := c) (e := e) (F := F) (ds := ds) fun y m => h y (List.mem_cons_of_mem _ m)
    obtain ⟨ρ1, h0, h1, h2⟩ := h d List.mem_cons_self
    unfold compD
    rw [h0]
    show ((c ρ1 >>= fun b => if b = true then e ρ1 >>= fun y => compD g c e ρ ds >>= fun ys => pure (y :: ys) else compD g c e ρ ds) : M (List Dat)) S = _
    rw [m_bind, h1]
    cases z : F d with
    | none =>
      rw [List.filterMap_cons_none z]
      exact ih
    | some y =>
      rw [List.filterMap_cons_some z]
      show ((e ρ1 >>= fun y => compD g c e ρ ds >>= fun ys => pure (y :: ys)) : M (List Dat)) S = _
      rw [m_bind, h2 y z]
      dsimp only
      rw [m_bind, ih] <;> rfl
theorem tupK_at {l : Env → M (List Dat)} {ds : List Dat} (hl : l ρ S = .ok ds S) (ln : ds.length ≤ 1000) : xTup l ρ S = .ok (.tup ds) S := by
  unfold xTup
  rw [m_bind, hl]
  show ((M.need (decide (ds.length ≤ 1000)) >>= fun _ => pure (Dat.tup ds)) : M Dat) S = _
  rw [decide_eq_true ln]
  rfl
theorem band_f {p q : Env → M Bool} (h : p ρ S = .ok false S) : bAnd p q ρ S = .ok false S := by
  unfold bAnd
  rw [m_bind, h]
  rfl
theorem band_t {p q : Env → M Bool} {y : Bool} (h : p ρ S = .ok true S) (k : q ρ S = .ok y S) : bAnd p q ρ S = .ok y S := by
  unfold bAnd
  rw [m_bind, h]
  exact k
theorem catL_ok {xs ys : List Dat} (l : xs.length + ys.length ≤ 100000) : dCatL (.lst xs) (.lst ys) S = .ok (.lst (xs ++ ys)) S := by
  show (M.need (decide (xs.length + ys.length ≤ 100000)) >>= fun _ => pure (Dat.lst (xs ++ ys)) : M Dat) S = _
  rw [decide_eq_true l]
  rfl
end
def St (k : Nat) (d : Dat) : Prop := noLoc d = true ∧ ∀ S n, k ≤ n → frz S n d = some d
theorem st_str {k : Nat} {s : Str} : St (k + 1) (.str s) := ⟨rfl, fun S n h => by obtain ⟨m, rfl⟩ : ∃ m, n = m + 1 := ⟨n - 1, by omega⟩; rfl⟩
theorem st_int {k : Nat} {i : Int} : St (k + 1) (.int i) := ⟨rfl, fun S n h => by obtain ⟨m, rfl⟩ : ∃ m, n = m + 1 := ⟨n - 1, by omega⟩; rfl⟩
theorem noLocs_of : ∀ {ds : List Dat}, (∀ d, d ∈ ds → noLoc d = true) → noLocs ds = true
  | [], _ => rfl
  | d :: ds, h => by
    unfold noLocs
    rw [h d List.mem_cons_self, noLocs_of fun x hx => h x (List.mem_cons_of_mem _ hx)] <;> rfl
theorem frzs_of {f : Dat → Option Dat} : ∀ {ds : List Dat}, (∀ d, d ∈ ds → f d = some d) → frzs f ds = some ds
  | [], _ => rfl
  | d :: ds, h => by
    unfold frzs
    rw [h d List.mem_cons_self]
    dsimp only
    rw [frzs_of fun x hx => h x (List.mem_cons_of_mem _ hx)]
theorem st_tup {k : Nat} {ds : List Dat} (h : ∀ d, d ∈ ds → St k d) : St (k + 1) (.tup ds) := ⟨by
    rw [noLoc]
    exact noLocs_of fun d hd => (h d hd).1, fun S n hn => by
    obtain ⟨m, rfl⟩ : ∃ m, n = m + 1 := ⟨n - 1, by omega⟩
    unfold frz
    dsimp only
    rw [frzs_of fun d hd => (h d hd).2 S m (by omega)]⟩
theorem st_obj {k : Nat} {c : String} {fs : List Str} {ds : List Dat} (h : ∀ d, d ∈ ds → St k d) : St (k + 1) (.obj c fs ds) := ⟨by
    rw [noLoc]
    exact noLocs_of fun d hd => (h d hd).1, fun S n hn => by
    obtain ⟨m, rfl⟩ : ∃ m, n = m + 1 := ⟨n - 1, by omega⟩
    unfold frz
    dsimp only
    rw [frzs_of fun d hd => (h d hd).2 S m (by omega)]⟩
theorem st_all2 {P : Dat → Prop} {a b : Dat} (ha : P a) (hb : P b) : ∀ d, d ∈ [a, b] → P d := fun d h => by
  rcases List.mem_cons.mp h with h | h
  · rw [h]; exact ha
  · rw [List.mem_singleton.mp h]; exact hb
theorem st_all3 {P : Dat → Prop} {a b c : Dat} (ha : P a) (hb : P b) (hc : P c) : ∀ d, d ∈ [a, b, c] → P d := fun d h => by
  rcases List.mem_cons.mp h with h | h
  · rw [h]; exact ha
  · exact st_all2 hb hc d h
theorem st_all4 {P : Dat → Prop} {a b c e : Dat} (ha : P a) (hb : P b) (hc : P c) (he : P e) : ∀ d, d ∈ [a, b, c, e] → P d := fun d h => by
  rcases List.mem_cons.mp h with h | h
  · rw [h]; exact ha
  · exact st_all3 hb hc he d h
theorem St.up {k l : Nat} {d : Dat} (h : St k d) (j : k ≤ l) : St l d := ⟨h.1, fun S n hn => h.2 S n (by omega)⟩
theorem st_dic {k : Nat} {ks : List Key} {ds : List Dat} (h : ∀ d, d ∈ ds → St k d) : St (k + 1) (.dic ks ds) := ⟨by
    rw [noLoc]
    exact noLocs_of fun d hd => (h d hd).1, fun S n hn => by
    obtain ⟨m, rfl⟩ : ∃ m, n = m + 1 := ⟨n - 1, by omega⟩
    unfold frz
    dsimp only
    rw [frzs_of fun d hd => (h d hd).2 S m (by omega)]⟩
theorem st_lst {k : Nat} {ds : List Dat} (h : ∀ d, d ∈ ds → St k d) : St (k + 1) (.lst ds) := ⟨by
    rw [noLoc]
    exact noLocs_of fun d hd => (h d hd).1, fun S n hn => by
    obtain ⟨m, rfl⟩ : ∃ m, n = m + 1 := ⟨n - 1, by omega⟩
    unfold frz
    dsimp only
    rw [frzs_of fun d hd => (h d hd).2 S m (by omega)]⟩
theorem FrS.setNew {i n : Nat} {S0 S : List Dat} {d : Dat} (h : FrS i S0 S) (hn : S0.length ≤ n) : FrS i S0 (S.set n d) := ⟨by rw [List.length_set]; exact h.1, fun j l ne => by
  rw [List.getElem?_set_ne (by omega)]
  exact h.2 j l ne⟩
theorem wp_app {o : Env → M Dat} {l : Env → M (List Dat)} {ρ : Env} {n : Nat} {S : List Dat} {xs : List Dat} {C : Flow → List Dat → Prop} (ho : o ρ S = .ok (.loc n) S) (h0 : S[n]? = some (.lst xs))
    (h : wp (l ρ) S fun ds S1 => ∃ x ys, ds = [x] ∧ S1[n]? = some (.lst ys) ∧ ys.length < 100000 ∧ C (.nx ρ) (S1.set n (.lst (ys ++ [x])))) : wp (sAppLo o l ρ) S C := by
  unfold sAppLo
  refine wp_bind (wp_of ho (wp_opt (a := n) rfl (wp_bind (wp_of (a := ()) (S' := S) ?_ (wp_bind (wp_mono h fun ds S1 z => ?_))))))
  · unfold needL isLst
    rw [h0]
  · obtain ⟨x, ys, rfl, e, ly, k⟩ := z
    refine wp_opt (a := x) rfl ?_
    refine wp_of (a := .nx ρ) (S' := S1.set n (.lst (ys ++ [x]))) ?_ k
    unfold appLo
    rw [e]
    dsimp only
    rw [decide_eq_true ly]
theorem Pot.newGet {i n k : Nat} {S : List Dat} (h : Pot i k S) (hn : S.length ≤ n) : n ≠ i := by
  obtain ⟨o, m, n', e, _⟩ := h
  have := (List.getElem?_eq_some_iff.mp e).1
  omega
section
variable {ℓ : Nat} {S : List Dat}
theorem noLocs_at : ∀ {ds : List Dat}, noLocs ds = true → ∀ d, d ∈ ds → noLoc d = true
  | d :: ds, h, x, m => by
    unfold noLocs at h
    rw [Bool.and_eq_true] at h
    rcases List.mem_cons.mp m with m | m
    · rw [m]
      exact h.1
    · exact noLocs_at h.2 x m
mutual
theorem low_of {n : Nat} : ∀ (d : Dat), noLoc d = true → lowL n d = true
  | .loc _, h => by rw [noLoc] at h; cases h
  | .tup ds, h => by rw [noLoc] at h; rw [lowL]; exact lows_of ds h
  | .lst ds, h => by rw [noLoc] at h; rw [lowL]; exact lows_of ds h
  | .dic ks ds, h => by rw [noLoc] at h; rw [lowL]; exact lows_of ds h
  | .obj c fs ds, h => by rw [noLoc] at h; rw [lowL]; exact lows_of ds h
  | .non, _ => rfl
  | .bl _, _ => rfl
  | .int _, _ => rfl
  | .str _, _ => rfl
  | .ty _, _ => rfl
  | .cls _, _ => rfl
  | .scr _, _ => rfl
theorem lows_of {n : Nat} : ∀ (ds : List Dat), noLocs ds = true → lowLs n ds = true
  | [], _ => rfl
  | d :: ds, h => by
    rw [noLocs, Bool.and_eq_true] at h
    rw [lowLs, low_of d h.1, lows_of ds h.2]
    rfl
end
theorem take_nl {k : Nat} {S' : List Dat} (nl : noLocs S = true) (hp : Pot ℓ k S') (f : FrS ℓ S S') : noLocs (S'.take S.length) = true := noLocs_of fun d m => by
  obtain ⟨j, lj, e⟩ := List.mem_iff_getElem.mp m
  have e2 := List.getElem?_eq_some_iff.mpr ⟨lj, e⟩
  rw [List.length_take] at lj
  rw [List.getElem?_take, if_pos (by omega)] at e2
  by_cases c : j = ℓ
  · subst c
    obtain ⟨o, m', n, e3, _⟩ := hp
    rw [e3] at e2
    cases e2
    rfl
  · rw [f.2 j (by omega) c] at e2
    exact noLocs_at nl d (List.mem_of_getElem? e2)
theorem wp_callP {F : List Dat → M Dat} {ds : List Dat} {k0 k : Nat} {C : Dat → List Dat → Prop} (nl : noLocs S = true) (h0 : Pot ℓ k0 S) (h : wp (F ds) S fun d S' => Pot ℓ k S' ∧ FrS ℓ S S' ∧ ∃ e, frzN S' S.length 40 d = some e ∧ ∀ S2, Pot ℓ k S2 → noLocs S2 = true → FrS ℓ S S2 → C e S2) : wp (callP F ds) S C := by
  obtain ⟨d, S', eF, hp, f, e, ez, q⟩ := wp_ok h
  have l0 : ℓ < S.length := by
    obtain ⟨_, _, _, a, _⟩ := h0
    exact (List.getElem?_eq_some_iff.mp a).1
  have nt := take_nl nl hp f
  refine wp_of (a := e) (S' := S'.take S.length) ?_ (q _ ?_ nt ⟨by rw [List.length_take]; have := f.1; omega, fun j lj n => ?_⟩)
  · unfold callP
    rw [eF]
    dsimp only
    rw [decide_eq_true f.1, lows_of _ nt]
    show (match frzN S' S.length 40 d with | some e => Out.ok e (S'.take S.length) | none => .bad) = _
    rw [ez]
  · obtain ⟨o, m, n, a, r⟩ := hp
    exact ⟨o, m, n, by rw [List.getElem?_take, if_pos l0]; exact a, r⟩
  · rw [List.getElem?_take, if_pos lj]
    exact f.2 j lj n
theorem frzN_of {S' : List Dat} {m : Nat} : ∀ (n : Nat) (d : Dat), noLoc d = true → ∀ e, frz S' n d = some e → frzN S' m n d = some e
  | 0, _, _, _, h => by cases h
  | n + 1, d, nl, e, h => by
    have ih := fun d => frzN_of (S' := S') (m := m) n d
    have its : ∀ (ds es : List Dat), noLocs ds = true → frzs (frz S' n) ds = some es → frzs (frzN S' m n) ds = some es := by
      intro ds
      induction ds with
      | nil => intro es _ h; exact h
      | cons d ds ihs =>
        intro es nl h
        rw [noLocs, Bool.and_eq_true] at nl
        unfold frzs at h ⊢
        cases e1 : frz S' n d with
        | none => rw [e1] at h; cases h
        | some x =>
          rw [e1] at h
          rw [ih d nl.1 x e1]
          dsimp only at h ⊢
          cases e2 : frzs (frz S' n) ds with
          | none => rw [e2] at h; cases h
          | some xs =>
            rw [e2] at h
            rw [ihs xs nl.2 e2]
            exact h
    cases d with
    | loc k => rw [noLoc] at nl; cases nl
    | tup ds =>
      rw [noLoc] at nl
      unfold frz at h
      unfold frzN
      dsimp only at h ⊢
      cases e2 : frzs (frz S' n) ds with
      | none => rw [e2] at h; cases h
      | some xs => rw [e2] at h; rw [its ds xs nl e2]; exact h
    | lst ds =>
      rw [noLoc] at nl
      unfold frz at h
      unfold frzN
      dsimp only at h ⊢
      cases e2 : frzs (frz S' n) ds with
      | none => rw [e2] at h; cases h
      | some xs => rw [e2] at h; rw [its ds xs nl e2]; exact h
    | dic ks ds =>
      rw [noLoc] at nl
      unfold frz at h
      unfold frzN
      dsimp only at h ⊢
      cases e2 : frzs (frz S' n) ds with
      | none => rw [e2] at h; cases h
      | some xs => rw [e2] at h; rw [its ds xs nl e2]; exact h
    | obj c fs ds =>
      rw [noLoc] at nl
      unfold frz at h
      unfold frzN
      dsimp only at h ⊢
      cases e2 : frzs (frz S' n) ds with
      | none => rw [e2] at h; cases h
      | some xs => rw [e2] at h; rw [its ds xs nl e2]; exact h
    | _ => exact h
theorem noLocs_push {d : Dat} (nl : noLocs S = true) (h : noLoc d = true) : noLocs (S ++ [d]) = true := noLocs_of fun x m => by
  rcases List.mem_append.mp m with m | m
  · exact noLocs_at nl x m
  · rw [List.mem_singleton.mp m]
    exact h
def FrE (i : Nat) (S S' : List Dat) : Prop := FrS i S S' ∧ S'.length = S.length
theorem FrE.refl {i : Nat} {S : List Dat} : FrE i S S := ⟨.refl, rfl⟩
theorem FrE.trans {i : Nat} {S S1 S2 : List Dat} (h : FrE i S S1) (k : FrE i S1 S2) : FrE i S S2 := ⟨h.1.trans k.1, k.2.trans h.2⟩
theorem FrE.set {i : Nat} {S : List Dat} {d : Dat} : FrE i S (S.set i d) := ⟨.set, by rw [List.length_set]⟩
theorem w_takeE {i k : Nat} {S : List Dat} {u : Int} {C : Dat → List Dat → Prop} (h : Pot i (k + 1) S) (u0 : 0 < u) (u1 : u < 2 ^ 200) (q : ∀ r S', 0 ≤ r → r < u → Pot i k S' → FrE i S S' → C (.int r) S') : wp (L__law_take [.loc i, .int u]) S C := by
  obtain ⟨o, m, n, h, o0, m0, m1, n0, nk⟩ := h
  have i0 := ixLo_of h (k := 0) (x := Dat.int o) rfl
  have i2 := ixLo_of h (k := 2) (x := Dat.int n) rfl
  refine wp_run (wp_seq (wp_if (wp_test (wp_op (wp_op (wp_of (a := .loc i) (S' := S) rfl (wp_of (a := .int 0) (S' := S) rfl (wp_of i0 ?_))))))))
  refine wp_of (a := .int 0) (S' := S) rfl (wp_of (a := .bl (decide (0 < o))) (S' := S) rfl ⟨_, rfl, fun h0 => ?_, fun h0 => ?_⟩)
  · have h0 := of_decide_eq_true h0
    refine wp_seq (wp_asg (wp_op (wp_cb (wp_cons (wp_op (wp_of (a := .loc i) (S' := S) rfl (wp_of (a := .int 0) (S' := S) rfl (wp_of i0 (wp_nil (w_int ?_))))))))))
    refine wp_of (a := .int u) (S' := S) rfl (w_mod u0 ⟨_, rfl, ?_⟩)
    refine wp_seq (wp_setLo (i := i) (k := 0) (xs := [.int o, .int m, .int n]) (q := 0) rfl ?_)
    refine wp_op (wp_op (wp_of (a := .loc i) (S' := S) rfl (wp_of (a := .int 0) (S' := S) rfl (wp_of i0 ?_))))
    refine wp_of (a := .int u) (S' := S) rfl (w_div u0 u1 ?_)
    refine wp_of (a := .int 0) (S' := S) rfl ⟨rfl, h, rfl, ?_⟩
    refine wp_ret (wp_of rfl ?_)
    exact q _ _ (Int.emod_nonneg _ (by omega)) (Int.emod_lt_of_pos _ u0) ⟨_, _, _, set_get h, Int.ediv_nonneg o0 (by omega), m0, m1, n0, by omega⟩ .set
  · refine wp_of rfl ?_
    refine wp_seq (wp_setLo (i := i) (k := 2) (xs := [.int o, .int m, .int n]) (q := 2) rfl ?_)
    refine wp_op (wp_op (wp_of (a := .loc i) (S' := S) rfl (wp_of (a := .int 2) (S' := S) rfl (wp_of i2 ?_))))
    refine wp_of (a := .int 1) (S' := S) rfl (w_add ?_)
    refine wp_of (a := .int 2) (S' := S) rfl ⟨rfl, h, rfl, ?_⟩
    have g : (S.set i (Dat.lst [Dat.int o, Dat.int m, Dat.int (n + 1)]))[i]? = some (Dat.lst [Dat.int o, Dat.int m, Dat.int (n + 1)]) := set_get h
    have fr : FrE i S (S.set i (Dat.lst [Dat.int o, Dat.int m, Dat.int (n + 1)])) := .set
    show wp (sSeq _ _ _) (S.set i (Dat.lst [Dat.int o, Dat.int m, Dat.int (n + 1)])) _
    generalize S.set i (Dat.lst [Dat.int o, Dat.int m, Dat.int (n + 1)]) = S1 at g fr ⊢
    clear i0 i2
    have i0 := ixLo_of g (k := 0) (x := Dat.int o) rfl
    have i1 := ixLo_of g (k := 1) (x := Dat.int m) rfl
    have i2 := ixLo_of g (k := 2) (x := Dat.int (n + 1)) rfl
    have l5 : 0 ≤ (n + 1) % 5 ∧ (n + 1) % 5 < 5 := ⟨Int.emod_nonneg _ (by decide), Int.emod_lt_of_pos _ (by decide)⟩
    refine wp_seq (wp_asg (wp_op (wp_of (a := .lst [.int 2147483647, .int 2147483629, .int 2147483587, .int 2147483579, .int 2147483563]) (S' := S1) rfl (wp_op (wp_cb (wp_cons (wp_op (wp_of (a := .loc i) (S' := S1) rfl (wp_of (a := .int 2) (S' := S1) rfl (wp_of i2 (wp_nil (w_int ?_)))))))))))) 
    refine wp_of (a := .int 5) (S' := S1) rfl (w_mod (by decide) ?_)
    have pr : ∃ pr : Int, 2147483563 ≤ pr ∧ pr ≤ 2147483647 ∧ atI [Dat.int 2147483647, .int 2147483629, .int 2147483587, .int 2147483579, .int 2147483563] ((n + 1) % 5) = some (.int pr) := by
      generalize (n + 1) % 5 = i at l5 ⊢
      have : i = 0 ∨ i = 1 ∨ i = 2 ∨ i = 3 ∨ i = 4 := by omega
      rcases this with rfl | rfl | rfl | rfl | rfl <;> exact ⟨_, by decide, by decide, rfl⟩
    obtain ⟨pr, p0, p1, pe⟩ := pr
    refine wp_of (S' := S1) (show M.opt (atI [Dat.int 2147483647, .int 2147483629, .int 2147483587, .int 2147483579, .int 2147483563] ((n + 1) % 5)) S1 = .ok (.int pr) S1 by rw [pe]; rfl) ⟨_, rfl, ?_⟩
    have sq0 : 0 ≤ (n + 1) * (n + 1) := Int.mul_nonneg (by omega) (by omega)
    have sq1 : (n + 1) * (n + 1) ≤ 100000 * 100000 := Int.mul_le_mul (by omega) (by omega) (by omega) (by decide)
    have sq2 : 98849 * (n + 1) * (n + 1) = 98849 * ((n + 1) * (n + 1)) := Int.mul_assoc _ _ _
    repeat (first | with_reducible refine wp_par3 ?_ | with_reducible refine wp_par ?_ | with_reducible refine wp_seq ?_ | with_reducible refine wp_asg ?_ | with_reducible refine wp_ret ?_ | with_reducible refine wp_op ?_ | with_reducible refine wp_un ?_ | with_reducible refine wp_cb ?_ | with_reducible refine wp_cons ?_ | with_reducible refine wp_nil ?_ | with_reducible refine wp_c ?_ | with_reducible refine wp_andV ?_ | with_reducible refine wp_orV ?_ | with_reducible refine wp_notV ?_ | with_reducible refine wp_test ?_ | with_reducible refine wp_not ?_ | with_reducible refine wp_tup ?_ | with_reducible refine wp_lst ?_ | with_reducible refine wp_call ?_ | with_reducible refine w_add ?_ | with_reducible refine w_sub ?_ | with_reducible refine w_int ?_ | ((with_reducible show wp (xVar _ _) _ _); refine wp_var rfl ?_) | ((with_reducible show wp (dMul _ _) _ _); refine w_mul (by first | exact .inl (by omega) | exact .inr (by omega)) ?_) | ((with_reducible show wp (dMod _ _) _ _); refine w_mod (by omega) ?_) | ((with_reducible show wp (dDiv _ _) _ _); refine w_div (by omega) (by omega) ?_) | ((with_reducible show wp (dPow _ _) _ _); refine w_pow (by first | omega | (constructor <;> omega)) (by omega) ?_) | ((with_reducible show wp (dIxLo _ _) _ _); first | refine wp_of i0 ?_ | refine wp_of i1 ?_ | refine wp_of i2 ?_) | ((with_reducible show wp (dGt _ _) _ _); refine wp_of rfl ?_) | ((with_reducible show wp (dLen _) _ _); refine wp_of rfl ?_) | ((with_reducible show wp (dNeg _) _ _); refine wp_of rfl ?_) | ((with_reducible show wp (dEq _ _) _ _); refine wp_of rfl ?_) | refine ⟨Nat.le_of_ble_eq_true rfl, ?_⟩ | refine ⟨_, rfl, ?_⟩ | refine ⟨_, _, _, rfl, ?_⟩ | refine ⟨_, _, rfl, ?_⟩ | dsimp only)
    exact q _ _ (Int.emod_nonneg _ (by omega)) (Int.emod_lt_of_pos _ u0) ⟨_, _, _, g, o0, m0, m1, by omega, by omega⟩ fr
theorem w_ofE {k : Nat} {S : List Dat} {xs : List Dat} {C : Dat → List Dat → Prop} (h : Pot ℓ (k + 1) S) (l0 : 0 < xs.length) (l1 : xs.length ≤ 1000) (q : ∀ x S', x ∈ xs → Pot ℓ k S' → FrE ℓ S S' → C x S') : wp (L__law_of [.loc ℓ, .lst xs]) S C := by
  refine wp_run ?_
  repeat (first | with_reducible refine wp_par3 ?_ | with_reducible refine wp_par ?_ | with_reducible refine wp_seq ?_ | with_reducible refine wp_asg ?_ | with_reducible refine wp_ret ?_ | with_reducible refine wp_op ?_ | with_reducible refine wp_un ?_ | with_reducible refine wp_cb ?_ | with_reducible refine wp_cons ?_ | with_reducible refine wp_nil ?_ | with_reducible refine wp_c ?_ | with_reducible refine wp_andV ?_ | with_reducible refine wp_orV ?_ | with_reducible refine wp_notV ?_ | with_reducible refine wp_test ?_ | with_reducible refine wp_not ?_ | with_reducible refine wp_tup ?_ | with_reducible refine wp_lst ?_ | with_reducible refine wp_call ?_ | with_reducible refine w_add ?_ | with_reducible refine w_sub ?_ | with_reducible refine w_int ?_ | ((with_reducible show wp (xVar _ _) _ _); refine wp_var rfl ?_) | ((with_reducible show wp (dMul _ _) _ _); refine w_mul (by first | exact .inl (by omega) | exact .inr (by omega)) ?_) | ((with_reducible show wp (dMod _ _) _ _); refine w_mod (by omega) ?_) | ((with_reducible show wp (dDiv _ _) _ _); refine w_div (by omega) (by omega) ?_) | ((with_reducible show wp (dPow _ _) _ _); refine w_pow (by first | omega | (constructor <;> omega)) (by omega) ?_) | ((with_reducible show wp (dIxLo _ _) _ _); refine wp_of rfl ?_) | ((with_reducible show wp (dGt _ _) _ _); refine wp_of rfl ?_) | ((with_reducible show wp (dLen _) _ _); refine wp_of rfl ?_) | ((with_reducible show wp (dNeg _) _ _); refine wp_of rfl ?_) | ((with_reducible show wp (dEq _ _) _ _); refine wp_of rfl ?_) | refine ⟨Nat.le_of_ble_eq_true rfl, ?_⟩ | refine ⟨_, rfl, ?_⟩ | refine ⟨_, _, _, rfl, ?_⟩ | refine ⟨_, _, rfl, ?_⟩ | dsimp only)
  refine w_takeE h (by omega) (by omega) fun r S' r0 r1 hp fr => ?_
  obtain ⟨x, ex, mx⟩ := at_nat r0 r1
  refine wp_of (show M.opt (atI xs r) S' = .ok x S' by rw [ex]; rfl) ?_
  exact q x S' mx hp fr
theorem w_ofSE {k : Nat} {S : List Dat} {C : Dat → List Dat → Prop} (ss : List Str) (h : Pot ℓ (k + 1) S) (l0 : 0 < ss.length) (l1 : ss.length ≤ 1000) (q : ∀ x S', x ∈ ss → Pot ℓ k S' → FrE ℓ S S' → C (.str x) S') : wp (L__law_of [.loc ℓ, .lst (ss.map .str)]) S C :=
  w_ofE h (by rw [List.length_map]; exact l0) (by rw [List.length_map]; exact l1) fun x S' mx hp fr => by
    obtain ⟨s, ms, rfl⟩ := List.mem_map.mp mx
    exact q s S' ms hp fr
theorem w_ofIE {k : Nat} {S : List Dat} {C : Dat → List Dat → Prop} (ss : List Int) (h : Pot ℓ (k + 1) S) (l0 : 0 < ss.length) (l1 : ss.length ≤ 1000) (q : ∀ x S', x ∈ ss → Pot ℓ k S' → FrE ℓ S S' → C (.int x) S') : wp (L__law_of [.loc ℓ, .lst (ss.map .int)]) S C :=
  w_ofE h (by rw [List.length_map]; exact l0) (by rw [List.length_map]; exact l1) fun x S' mx hp fr => by
    obtain ⟨s, ms, rfl⟩ := List.mem_map.mp mx
    exact q s S' ms hp fr
end
def PyS (k : Nat) (d : Dat) : Prop := ∃ y, toPy d = some y ∧ y.canLay0 = true ∧ y.depth ≤ k
theorem pys_str {k : Nat} {s : Str} (h : (PyData.str s).canLay0 = true) : PyS k (.str s) := ⟨.str s, rfl, h, Nat.zero_le _⟩
theorem pys_list {k : Nat} : ∀ {ds : List Dat}, (∀ d, d ∈ ds → PyS k d) → ∃ ys, toPys ds = some ys ∧ PyData.canLayAll0 ys = true ∧ PyData.depthAll ys ≤ k ∧ ys.length = ds.length
  | [], _ => ⟨[], by rw [toPys], rfl, Nat.zero_le _, rfl⟩
  | d :: ds, h => by
    obtain ⟨y, e, c, l⟩ := h d List.mem_cons_self
    obtain ⟨ys, e2, c2, l2, n⟩ := pys_list fun x hx => h x (List.mem_cons_of_mem _ hx)
    refine ⟨y :: ys, ?_, ?_, ?_, by rw [List.length_cons, List.length_cons, n]⟩
    · rw [toPys, e, e2] <;> rfl
    · rw [PyData.canLayAll0, c, c2] <;> rfl
    · rw [PyData.depthAll]
      exact Nat.max_le.mpr ⟨l, l2⟩
def okS (s : Str) : Prop := (PyData.str s).canLay0 = true
instance {s : Str} : Decidable (okS s) := by unfold okS; infer_instance
structure Shw (n b : Nat) (y : PyData) : Prop where
  sh : y.showable = true
  dp : y.depth ≤ n
  ls : y.leavesShort 24 = true
  bk : y.bulk ≤ b
structure Shws (n b : Nat) (ys : List PyData) : Prop where
  sh : PyData.showableAll ys = true
  dp : PyData.depthAll ys ≤ n
  ls : PyData.leavesShortAll 24 ys = true
  bk : PyData.bulkAll ys ≤ b
theorem Shws.nil {n : Nat} : Shws n 0 [] := ⟨by simp only [PyData.showableAll], by simp only [PyData.depthAll, Nat.zero_le], by simp only [PyData.leavesShortAll], by simp only [PyData.bulkAll, Nat.le_refl]⟩
theorem Shws.cons {n b c : Nat} {y : PyData} {ys : List PyData} (h : Shw n b y) (k : Shws n c ys) : Shws n (b + 1 + c) (y :: ys) :=
  ⟨by simp only [PyData.showableAll, h.sh, k.sh, Bool.and_self], by simp only [PyData.depthAll]; exact Nat.max_le.mpr ⟨h.dp, k.dp⟩, by simp only [PyData.leavesShortAll, h.ls, k.ls, Bool.and_self], by simp only [PyData.bulkAll]; have := h.bk; have := k.bk; omega⟩
theorem Shws.tup {n b : Nat} {ys : List PyData} (h : Shws n b ys) : Shw (n + 1) b (.tuple ys) :=
  ⟨by simp only [PyData.showable]; exact h.sh, by simp only [PyData.depth]; have := h.dp; omega, by simp only [PyData.leavesShort]; exact h.ls, by simp only [PyData.bulk]; exact h.bk⟩
theorem Shws.lst {n b : Nat} {ys : List PyData} (h : Shws n b ys) : Shw (n + 1) b (.list ys) :=
  ⟨by simp only [PyData.showable]; exact h.sh, by simp only [PyData.depth]; have := h.dp; omega, by simp only [PyData.leavesShort]; exact h.ls, by simp only [PyData.bulk]; exact h.bk⟩
theorem Shw.le {n b m c : Nat} {y : PyData} (h : Shw n b y) (h1 : n ≤ m) (h2 : b ≤ c) : Shw m c y := ⟨h.sh, Nat.le_trans h.dp h1, h.ls, Nat.le_trans h.bk h2⟩
theorem Shws.le {n b m c : Nat} {y : List PyData} (h : Shws n b y) (h1 : n ≤ m) (h2 : b ≤ c) : Shws m c y := ⟨h.sh, Nat.le_trans h.dp h1, h.ls, Nat.le_trans h.bk h2⟩
theorem shw_non : Shw 0 20 .none := ⟨by simp only [PyData.showable], by simp only [PyData.depth, Nat.le_refl], by simp only [PyData.leavesShort], by simp only [PyData.bulk]; decide⟩
theorem shw_bl {b : Bool} : Shw 0 20 (.bool b) := ⟨by simp only [PyData.showable], by simp only [PyData.depth, Nat.le_refl], by simp only [PyData.leavesShort], by simp only [PyData.bulk]; decide⟩
theorem log_lt {i : Int} (h : -(10 ^ 20) < i ∧ i < 10 ^ 20) : i.natAbs.log2 < 1920 := by
  by_cases z : i.natAbs = 0
  · rw [z]; decide
  · rw [Nat.log2_lt z]
    have : i.natAbs ≤ 10 ^ 20 := by omega
    exact Nat.lt_of_le_of_lt this (by decide +kernel)
theorem shw_int {i : Int} (h : -(10 ^ 20) < i ∧ i < 10 ^ 20) : Shw 0 20 (.int i) := by
  refine ⟨by simp only [PyData.showable]; exact decide_eq_true (log_lt h), by simp only [PyData.depth, Nat.le_refl], ?_, by simp only [PyData.bulk]; decide⟩
  simp only [PyData.leavesShort, PyData.shown]
  have := PySem.int_text_length_le10 (a := i) (k := 20) (by decide) (by omega)
  refine decide_eq_true ?_
  rw [PySem.ofString_length]
  omega
def strB (s : Str) : Bool := (s.cps.toList.all fun c => decide (c < 16 ^ 8)) && decide (s.cps.size ≤ 20)
theorem shw_str {s : Str} (h : strB s = true) : Shw 0 20 (.str s) := by
  unfold strB at h
  rw [Bool.and_eq_true, decide_eq_true_eq] at h
  exact ⟨by simp only [PyData.showable], by simp only [PyData.depth, Nat.le_refl], by simp only [PyData.leavesShort]; exact h.1, by simp only [PyData.bulk]; exact h.2⟩
def lg (d : Dat) : Prop := (∃ s : Str, d = .str s ∧ strB s = true ∧ okS s) ∨ (∃ i : Int, d = .int i ∧ -(10 ^ 20) < i ∧ i < 10 ^ 20) ∨ d = .non ∨ ∃ b, d = .bl b
def Gd : Nat → Dat → Prop
  | 0, d => lg d
  | n + 1, d => lg d ∨ ∃ ds, (d = .tup ds ∨ d = .lst ds) ∧ ds.length ≤ 8 ∧ ∀ x ∈ ds, Gd n x
theorem Gd.up : ∀ {n : Nat} {d : Dat}, Gd n d → Gd (n + 1) d
  | 0, _, h => .inl h
  | n + 1, _, .inl h => .inl h
  | n + 1, _, .inr ⟨ds, e, l, h⟩ => .inr ⟨ds, e, l, fun x m => (h x m).up⟩
theorem Gd.tup {n : Nat} {ds : List Dat} (l : ds.length ≤ 8) (h : ∀ x ∈ ds, Gd n x) : Gd (n + 1) (.tup ds) := .inr ⟨ds, .inl rfl, l, h⟩
theorem Gd.lst {n : Nat} {ds : List Dat} (l : ds.length ≤ 8) (h : ∀ x ∈ ds, Gd n x) : Gd (n + 1) (.lst ds) := .inr ⟨ds, .inr rfl, l, h⟩
def bb : Nat → Nat
  | 0 => 20
  | n + 1 => 8 * (bb n + 1)
theorem bb_le : ∀ n, bb n ≤ bb (n + 1)
  | 0 => by decide
  | n + 1 => by
    have := bb_le n
    show 8 * (bb n + 1) ≤ 8 * (bb (n + 1) + 1)
    omega
theorem bb20 : ∀ n, 20 ≤ bb n
  | 0 => Nat.le_refl _
  | n + 1 => Nat.le_trans (bb20 n) (bb_le n)
structure Swy (n b : Nat) (y : PyData) : Prop where
  s : Shw n b y
  d : y.hasDict = false
  c : y.canLay0 = true
abbrev Sw (n : Nat) (d : Dat) : Prop := ∃ y, toPy d = some y ∧ Swy (n + 1) (bb n) y
theorem lg_s {n : Nat} {d : Dat} (h : lg d) : Sw n d := by
  rcases h with ⟨s, rfl, m⟩ | ⟨i, rfl, l⟩ | rfl | ⟨b, rfl⟩
  · exact ⟨.str s, rfl, (shw_str m.1).le (Nat.zero_le _) (bb20 n), rfl, m.2⟩
  · exact ⟨.int i, rfl, (shw_int l).le (Nat.zero_le _) (bb20 n), rfl, rfl⟩
  · exact ⟨.none, rfl, shw_non.le (Nat.zero_le _) (bb20 n), rfl, rfl⟩
  · exact ⟨.bool b, rfl, shw_bl.le (Nat.zero_le _) (bb20 n), rfl, rfl⟩
theorem sw_all {n b : Nat} : ∀ (ds : List Dat), (∀ x ∈ ds, ∃ y, toPy x = some y ∧ Swy n b y) → ∃ ys, toPys ds = some ys ∧ Shws n (ds.length * (b + 1)) ys ∧ PyData.hasDictAll ys = false ∧ PyData.canLayAll0 ys = true ∧ ys.length = ds.length
  | [], _ => ⟨[], rfl, Shws.nil.le (Nat.le_refl _) (Nat.zero_le _), rfl, rfl, rfl⟩
  | d :: ds, h => by
    obtain ⟨y, e, s, k, c⟩ := h d List.mem_cons_self
    obtain ⟨ys, es, ss, ks, cs, l⟩ := sw_all ds fun x m => h x (List.mem_cons_of_mem _ m)
    refine ⟨y :: ys, ?_, (Shws.cons s ss).le (Nat.le_refl _) ?_, ?_, ?_, by rw [List.length_cons, List.length_cons, l]⟩
    · rw [toPys, e, es]; rfl
    · rw [List.length_cons, Nat.add_mul]; omega
    · simp only [PyData.hasDictAll, k, ks, Bool.or_self]
    · simp only [PyData.canLayAll0, c, cs, Bool.and_self]
/-- a tuple of at most k -/
theorem sw_tup {n b k : Nat} {ds : List Dat} (l : ds.length ≤ k) (h : ∀ x ∈ ds, ∃ y, toPy x = some y ∧ Swy n b y) : ∃ y, toPy (.tup ds) = some y ∧ Swy (n + 1) (k * (b + 1)) y := by
  obtain ⟨ys, es, s, q, c, _⟩ := sw_all ds h
  exact ⟨.tuple ys, by rw [toPy, es]; rfl, s.tup.le (Nat.le_refl _) (Nat.mul_le_mul_right _ l), by simp only [PyData.hasDict]; exact q, by simp only [PyData.canLay0]; exact c⟩
theorem sw_le {n b m c : Nat} {d : Dat} (h : ∃ y, toPy d = some y ∧ Swy n b y) (h1 : n ≤ m) (h2 : b ≤ c) : ∃ y, toPy d = some y ∧ Swy m c y := by
  obtain ⟨y, e, s, q, c⟩ := h
  exact ⟨y, e, s.le h1 h2, q, c⟩
theorem sw_repr {n b : Nat} {d : Dat} (h : ∃ y, toPy d = some y ∧ Swy n b y) (hn : n ≤ 10) (hb : b ≤ 86600) : ∃ z : Str, ∀ S, dRepr2 [d] S = .ok (.str z) S := by
  obtain ⟨y, e, s, k, _⟩ := h
  have l : y.shown.length ≤ sizeLine := by
    have := PyData.shown_le_bulk 24 (by decide) y s.ls
    have := s.bk
    rw [sizeLine_eq]
    omega
  have o : okShow y = true := by
    have s1 := s.sh
    have dp := s.dp
    unfold okShow
    rw [s1, k, decide_eq_true (show y.depth ≤ 64 by omega), decide_eq_true l]
    cases y with
    | int i => simp only [PyData.showable] at s1; simp only [s1]; rfl
    | _ => rfl
  refine ⟨y.shown, fun S => ?_⟩
  unfold dRepr2
  simp only [e, o]
  rfl
theorem toPy_tup {ds : List Dat} {y : PyData} (h : toPy (.tup ds) = some y) : ∃ ys, toPys ds = some ys ∧ y = .tuple ys := by
  rw [toPy] at h
  cases q : toPys ds with
  | none => rw [q] at h; cases h
  | some ys => rw [q] at h; cases h; exact ⟨ys, rfl, rfl⟩
theorem toPy_lst {ds : List Dat} {y : PyData} (h : toPy (.lst ds) = some y) : ∃ ys, toPys ds = some ys ∧ y = .list ys := by
  rw [toPy] at h
  cases q : toPys ds with
  | none => rw [q] at h; cases h
  | some ys => rw [q] at h; cases h; exact ⟨ys, rfl, rfl⟩
theorem toPys_two {d : Dat} {ds : List Dat} {ys : List PyData} (h : toPys (d :: ds) = some ys) : ∃ x xs, toPy d = some x ∧ toPys ds = some xs ∧ ys = x :: xs := by
  rw [toPys] at h
  cases q : toPy d with
  | none => rw [q] at h; cases h
  | some x =>
    rw [q] at h
    cases q2 : toPys ds with
    | none => rw [q2] at h; cases h
    | some xs => rw [q2] at h; cases h; exact ⟨x, xs, rfl, rfl, rfl⟩
section
variable {S : List Dat} {k : Nat} {d e : Dat} {b : Bool}
theorem PyS.shp (h : PyS k d) (hk : k ≤ 64) : ∃ y, toPy d = some y ∧ Zd.shp y = true ∧ y.canLay0 = true := by
  obtain ⟨y, e, c, l⟩ := h
  refine ⟨y, e, ?_, c⟩
  unfold Zd.shp SeqAt.shaped
  rw [c, decide_eq_true (show y.depth ≤ 64 by omega)]
  rfl
theorem eqD_same (h : PyS k d) (hk : k ≤ 64) : dEqD b d d S = .ok (.bl (b != true)) S := by
  obtain ⟨y, e, s, c⟩ := h.shp hk
  unfold dEqD
  rw [e]
  show ((M.need (Zd.shp y && Zd.shp y) >>= fun _ => pure (.bl (b != PyData.eqv y y))) : M Dat) S = _
  rw [s, SeqAt.eqv_refl y c]
  rfl
theorem pys_mems {k : Nat} : ∀ {ds : List Dat} {ys : List PyData}, toPys ds = some ys → PyData.canLayAll0 ys = true → PyData.depthAll ys ≤ k → ∀ d, d ∈ ds → PyS k d
  | d :: ds, ys, h, c, l, x, m => by
    obtain ⟨y, ys', h1, h2, rfl⟩ := toPys_two h
    rw [PyData.canLayAll0, Bool.and_eq_true] at c
    rw [PyData.depthAll] at l
    rcases List.mem_cons.mp m with m | m
    · rw [m]
      exact ⟨y, h1, c.1, Nat.le_trans (Nat.le_max_left _ _) l⟩
    · exact pys_mems h2 c.2 (Nat.le_trans (Nat.le_max_right _ _) l) x m
theorem PyS.mem {ds : List Dat} (h : PyS (k + 1) (.tup ds)) : ∀ d, d ∈ ds → PyS k d := by
  obtain ⟨y, e, c, l⟩ := h
  obtain ⟨ys, e2, rfl⟩ := toPy_tup e
  rw [PyData.canLay0] at c
  rw [PyData.depth] at l
  exact pys_mems e2 c (by omega)
theorem PyS.le {j : Nat} (h : PyS j d) (l : j ≤ k) : PyS k d := by
  obtain ⟨y, e, c, q⟩ := h
  exact ⟨y, e, c, by omega⟩
theorem pys_lst {k : Nat} {ds : List Dat} (h : ∀ d, d ∈ ds → PyS k d) : PyS (k + 1) (.lst ds) := by
  obtain ⟨ys, e, c, l, _⟩ := pys_list h
  refine ⟨.list ys, by rw [toPy, e] <;> rfl, by rw [PyData.canLay0]; exact c, by rw [PyData.depth]; omega⟩
end
section
variable {S : List Dat} {ρ : Env}
theorem rg1_at {l : Env → M (List Dat)} {n : Nat} (hl : l ρ S = .ok [.int (n : Int)] S) (h : n ≤ 1000) : iRg1 l ρ S = .ok (intsD 0 n) S := by
  unfold iRg1
  rw [m_bind, hl]
  show (M.need (decide (-(2 ^ 62) ≤ (n : Int) ∧ (n : Int) < 2 ^ 62)) >>= fun _ => pure (intsD 0 (n : Int).toNat) : M (List Dat)) S = _
  rw [decide_eq_true (by omega), Int.toNat_natCast]
  rfl
theorem wp_seqA {a b : Env → M Flow} {ρ' : Env} {S1 : List Dat} {C : Flow → List Dat → Prop} (h : a ρ S = .ok (.nx ρ') S1) (k : wp (b ρ') S1 C) : wp (sSeq a b ρ) S C := wp_seq (wp_of h k)
end
end Zd
namespace Zd
open PySem PySem.Spec PyProof.Rows L2 Zg
def lets : List Nat := (List.range 26).map (97 + ·)
theorem lets_in {c : Nat} (h : 97 ≤ c ∧ c < 123) : c ∈ lets := List.mem_map.mpr ⟨c - 97, List.mem_range.mpr (by omega), by omega⟩
theorem lets_ok : ∀ c, c ∈ lets → (decide (c < 128) && Unicode.isAlpha c && Unicode.isLower c && !(Unicode.isUpper c || Unicode.isTitle c)) = true := by decide +kernel
structure IsNm (s : Str) : Prop where
  ls : ∀ c, c ∈ s.cps.toList → 97 ≤ c ∧ c < 123
  l1 : 1 ≤ s.cps.toList.length
  l8 : s.cps.toList.length ≤ 8
theorem IsNm.let_ {s : Str} (h : IsNm s) {c : Nat} (m : c ∈ s.cps.toList) : c < 128 ∧ Unicode.isAlpha c = true ∧ Unicode.isLower c = true ∧ (Unicode.isUpper c || Unicode.isTitle c) = false := by
  have k := lets_ok c (lets_in (h.ls c m))
  simp only [Bool.and_eq_true, decide_eq_true_eq, Bool.not_eq_true'] at k
  exact ⟨k.1.1.1, k.1.1.2, k.1.2, k.2⟩
theorem all_arr {a : Array Nat} {f : Nat → Bool} (h : ∀ c, c ∈ a.toList → f c = true) : a.all f = true := by
  rw [← Array.all_toList]
  exact List.all_eq_true.mpr h
theorem any_arr {a : Array Nat} {f : Nat → Bool} : a.any f = a.toList.any f := by rw [← Array.any_toList]
theorem IsNm.ascii {s : Str} (h : IsNm s) : Txt.isascii s = true := all_arr fun c m => decide_eq_true (h.let_ m).1
theorem IsNm.alpha {s : Str} (h : IsNm s) : Txt.isalpha s = true := by
  unfold Txt.isalpha
  rw [Bool.and_eq_true]
  refine ⟨decide_eq_true ?_, all_arr fun c m => (h.let_ m).2.1⟩
  have := h.l1
  rw [Array.length_toList] at this
  exact this
theorem IsNm.lower {s : Str} (h : IsNm s) : Txt.islower s = true := by
  unfold Txt.islower
  rw [any_arr, any_arr, Bool.and_eq_true]
  constructor
  · match e : s.cps.toList, h.l1 with
    | c :: r, _ => exact List.any_eq_true.mpr ⟨c, List.mem_cons_self, (h.let_ (by rw [e]; exact List.mem_cons_self)).2.2.1⟩
  · rw [Bool.not_eq_true', List.any_eq_false]
    exact fun c m k => by rw [(h.let_ m).2.2.2] at k; cases k
theorem IsNm.size {s : Str} (h : IsNm s) : s.length ≤ 8 := by
  have := h.l8
  rw [Array.length_toList] at this
  exact this
theorem lenS_at {S : List Dat} {s : Str} (h : s.length ≤ 100000) : dLenS [.str s] S = .ok (.int s.length) S := by
  show ((M.need (decide (s.length ≤ 100000)) >>= fun _ => pure (.int s.length)) : M Dat) S = _
  rw [decide_eq_true h] <;> rfl
theorem is_name_ok {S : List Dat} {s : Str} (h : IsNm s) : L_is_name [.str s] S = .ok (.bl true) S := by
  refine run_at ?_
  rw [seq_at (ρ' := [some (.str s)]) (S' := S) ((if_f (S' := S) ?_).trans rfl)]
  · refine ret_at ?_
    have e : xAnd (xUn (dM0' Txt.isascii) (xVar 0)) (xAnd (xUn (dM0' Txt.isalpha) (xVar 0)) (xUn (dM0' Txt.islower) (xVar 0))) [some (.str s)] S = .ok (.bl (Txt.isascii s && (Txt.isalpha s && Txt.islower s))) S := and_b rfl (and_b rfl rfl)
    rw [h.ascii, h.alpha, h.lower] at e
    exact e
  · show bOr _ _ [some (.str s)] S = _
    rw [or_f (S' := S) rfl]
    refine test_at (op_at (x := .int s.length) (y := .int 8) (cb_at (S1 := S) (one_at rfl) (lenS_at (by have := h.size; omega))) rfl ?_)
    show Out.ok (Dat.bl (decide ((8 : Int) < s.length))) S = _
    rw [decide_eq_false (by have := h.size; omega)]
def lstS (ss : List Str) : Dat := .lst (ss.map .str)
def tupS (ss : List Str) : Dat := .tup (ss.map .str)
abbrev ltN (a b : Str) : Prop := a.cps.toList < b.cps.toList
/-- a few names, ascending -/
structure NmS (ss : List Str) : Prop where
  n : ∀ s, s ∈ ss → IsNm s
  l1 : 1 ≤ ss.length
  l3 : ss.length ≤ 3
  up : ss.Pairwise ltN
theorem asc3 {S : List Dat} : ∀ {ss : List Str}, ss.length ≤ 3 → ss.Pairwise ltN → L_is_ascending [lstS ss] S = .ok (.bl true) S
  | [], _, _ => rfl
  | [a], _, _ => rfl
  | [a, b], _, h => by
    have h1 := (List.pairwise_cons.mp h).1 b (by simp)
    show Out.ok (Dat.bl (decide (a.cps.toList < b.cps.toList) && true)) S = _
    rw [decide_eq_true h1] <;> rfl
  | [a, b, c], _, h => by
    have h1 := (List.pairwise_cons.mp h).1 b (by simp)
    have h2 := (List.pairwise_cons.mp (List.pairwise_cons.mp h).2).1 c (by simp)
    show Out.ok (Dat.bl (decide (a.cps.toList < b.cps.toList) && (decide (b.cps.toList < c.cps.toList) && true))) S = _
    rw [decide_eq_true h1, decide_eq_true h2] <;> rfl
theorem ascT3 {S : List Dat} : ∀ {ss : List Str}, ss.length ≤ 3 → ss.Pairwise ltN → L_is_ascendingT [tupS ss] S = .ok (.bl true) S
  | [], _, _ => rfl
  | [a], _, _ => rfl
  | [a, b], _, h => by
    have h1 := (List.pairwise_cons.mp h).1 b (by simp)
    show Out.ok (Dat.bl (decide (a.cps.toList < b.cps.toList) && true)) S = _
    rw [decide_eq_true h1] <;> rfl
  | [a, b, c], _, h => by
    have h1 := (List.pairwise_cons.mp h).1 b (by simp)
    have h2 := (List.pairwise_cons.mp (List.pairwise_cons.mp h).2).1 c (by simp)
    show Out.ok (Dat.bl (decide (a.cps.toList < b.cps.toList) && (decide (b.cps.toList < c.cps.toList) && true))) S = _
    rw [decide_eq_true h1, decide_eq_true h2] <;> rfl
theorem tup13 {S : List Dat} {ds : List Dat} (h1 : 1 ≤ ds.length) (h3 : ds.length ≤ 3) : L_is_tuple_of [.tup ds, .int 1, .int 3] S = .ok (.bl true) S := by
  match ds, h1, h3 with
  | [_], _, _ => rfl
  | [_, _], _, _ => rfl
  | [_, _, _], _, _ => rfl
theorem cols_ok {S : List Dat} {ss : List Str} (h : NmS ss) : L__are_columns [tupS ss] S = .ok (.bl true) S := by
  have l1 := h.l1
  have l3 := h.l3
  refine run_at ?_
  show sSeq _ _ [some (tupS ss), none] S = _
  rw [seq_at (S' := S) ((if_f (S' := S) ?_).trans rfl)]
  · exact ret_at (call_at (S1 := S) (ds := [tupS ss]) rfl (ascT3 l3 h.up))
  · rw [or_f (S' := S) (not_at (test_at (call_at (S1 := S) (ds := [.tup (ss.map .str), .int 1, .int 3]) rfl (tup13 (by rw [List.length_map]; exact l1) (by rw [List.length_map]; exact l3)))))]
    refine not_at (test_at (all_at (ds := ss.map .str) rfl (by rw [List.length_map]; omega) fun d hd => ?_))
    obtain ⟨s, hs, rfl⟩ := List.mem_map.mp hd
    exact call_at (S1 := S) (ds := [.str s]) rfl (is_name_ok (h.n s hs))
end Zd
namespace Zd
open PySem PySem.Spec PyProof.Rows L2 Zg
def deedsL : List (List Str) := [[], ["match"], ["order"], ["match", "order"], ["show"], ["match", "show"], ["order", "show"], ["match", "order", "show"]]
def sidesL : List Str := ["narrow", "wide", "either"]
def howsL : List Str := ["narrow", "wide", "both", "narrow first", "wide first"]
def rulesL : List Str := ["cut", "empty", "refuse"]
def prs {α β : Type} (l : List α) (k : List β) : List (α × β) := l.flatMap fun a => k.map fun b => (a, b)
theorem mem_prs {α β : Type} {l : List α} {k : List β} {a : α} {b : β} (ha : a ∈ l) (hb : b ∈ k) : (a, b) ∈ prs l k := List.mem_flatMap.mpr ⟨a, ha, List.mem_map.mpr ⟨b, hb, rfl⟩⟩
theorem read_at (S : List Dat) (c : Str) : ((prs sidesL deedsL).map fun q : Str × List Str => L__is_read [.tup [.str c, .str q.1, tupS q.2]] S) = (prs sidesL deedsL).map fun _ => .ok (.bl true) S := by kernel_rfl
section
variable {S : List Dat} {ρ : Env}
theorem in_at {neg : Bool} {c : Str} {cs : List Str} (h : c ∈ cs) : dInS neg (.str c) (tupS cs) S = .ok (.bl (!neg)) S := by
  unfold dInS
  have e : ((itemsOf (tupS cs)).bind strsD) = some cs := strsD_map cs
  rw [e]
  show Out.ok (Dat.bl (neg != isS (.str c) cs)) S = _
  have e2 : isS (.str c) cs = true := by
    show (cs.any fun z => z == c) = true
    exact List.any_eq_true.mpr ⟨c, h, beq_self_eq_true c⟩
  rw [e2]
  cases neg <;> rfl
end
def fstD : Dat → Dat
  | .tup (x :: _) => x
  | d => d
theorem nsets_len (cs : List Str) (h : NmS cs) : cs.length ≤ 3 ∧ 1 ≤ cs.length := ⟨h.l3, h.l1⟩
/-- rows, one a column, some left out -/
structure Rows (P : Str → Dat → Prop) (cs : List Str) (ds : List Dat) : Prop where
  at_ : ∀ d, d ∈ ds → ∃ c, c ∈ cs ∧ P c d
  fs : ∃ ss : List Str, ss.Sublist cs ∧ ds.map fstD = ss.map .str
theorem Rows.len {P : Str → Dat → Prop} {cs : List Str} {ds : List Dat} (h : Rows P cs ds) : ds.length ≤ cs.length := by
  obtain ⟨ss, s, e⟩ := h.fs
  have := s.length_le
  have e2 := congrArg List.length e
  rw [List.length_map, List.length_map] at e2
  omega
theorem rows3 {P : Str → Dat → Prop} {cs : List Str} {ds : List Dat} {S : List Dat} (hc : NmS cs) (h : Rows P cs ds) (hP : ∀ c d, P c d → ∃ x y, d = .tup [.str c, x, y]) : L__are_rows [tupS cs, .tup ds, .int 3] S = .ok (.bl true) S := by
  refine run_at ?_
  rw [seq_at (ρ' := [some (tupS cs), some (.tup ds), some (.int 3), none]) (S' := S) rfl]
  obtain ⟨ρ', e, k⟩ := for_at (S := S) (b := sIf (bOr (bNot (bTest (xCall L_is_tuple_of (xCons (xVar 3) (xCons (xVar 2) (xCons (xVar 2) xNil)))))) (bTest (xOp (dInS true) (xOp dIxT (xVar 3) (xC (.int 0))) (xVar 0)))) (sRet (xC (.bl false))) sNx) (i := 3) (ds := ds) (ρ := [some (tupS cs), some (.tup ds), some (.int 3), none]) fun d hd => by
    obtain ⟨c, hc, p⟩ := h.at_ d hd
    obtain ⟨x, y, rfl⟩ := hP c d p
    rw [if_f (S' := S)]
    · rfl
    · rw [or_f (S' := S) rfl]
      exact test_at (op_at (x := .str c) (y := tupS cs) rfl rfl (in_at hc))
  rw [seq_at (ρ' := ρ') (S' := S) (sfor_at (ds := ds) rfl e)]
  have sh : ∃ z, ρ' = [some (tupS cs), some (.tup ds), some (.int 3), z] := by
    match ρ', k with
    | [a, b, c, d], k => cases k; exact ⟨d, rfl⟩
  obtain ⟨z, rfl⟩ := sh
  obtain ⟨ss, s, ef⟩ := h.fs
  refine ret_at (call_at (one_at (lc_at (f := fstD) (ds := ds) rfl ?_ fun d hd => ?_)) (S1 := S) ?_)
  · have := h.len
    have := nsets_len cs hc
    omega
  · obtain ⟨c, hc, p⟩ := h.at_ d hd
    obtain ⟨x, y, rfl⟩ := hP c d p
    rfl
  · rw [ef]
    exact asc3 (by have := s.length_le; have := hc.l3; omega) (hc.up.sublist s)
section
variable {S : List Dat}
theorem in_atL {neg : Bool} {c : Str} {cs : List Str} (h : c ∈ cs) : dInS neg (.str c) (lstS cs) S = .ok (.bl (!neg)) S := in_at (cs := cs) h
theorem neS_at {a b : Str} : dNe (.str a) (.str b) S = .ok (.bl (!decide (a = b))) S := by
  show Out.ok (Dat.bl (!decide (V.str a = V.str b))) S = _
  have e : decide (V.str a = V.str b) = decide (a = b) := by
    by_cases h : a = b
    · rw [decide_eq_true h, decide_eq_true (congrArg V.str h)]
    · rw [decide_eq_false h, decide_eq_false fun z => h (V.str.inj z)]
  rw [e]
theorem rows5 {P : Str → Dat → Prop} {cs : List Str} {ds : List Dat} (hc : NmS cs) (h : Rows P cs ds) (hP : ∀ c d, P c d → ∃ x y z u, d = .tup [.str c, x, y, z, u]) : L__are_rows [tupS cs, .tup ds, .int 5] S = .ok (.bl true) S := by
  refine run_at ?_
  rw [seq_at (ρ' := [some (tupS cs), some (.tup ds), some (.int 5), none]) (S' := S) rfl]
  obtain ⟨ρ', e, k⟩ := for_at (S := S) (b := sIf (bOr (bNot (bTest (xCall L_is_tuple_of (xCons (xVar 3) (xCons (xVar 2) (xCons (xVar 2) xNil)))))) (bTest (xOp (dInS true) (xOp dIxT (xVar 3) (xC (.int 0))) (xVar 0)))) (sRet (xC (.bl false))) sNx) (i := 3) (ds := ds) (ρ := [some (tupS cs), some (.tup ds), some (.int 5), none]) fun d hd => by
    obtain ⟨c, hc, p⟩ := h.at_ d hd
    obtain ⟨x, y, z, u, rfl⟩ := hP c d p
    rw [if_f (S' := S)]
    · rfl
    · rw [or_f (S' := S) rfl]
      exact test_at (op_at (x := .str c) (y := tupS cs) rfl rfl (in_at hc))
  rw [seq_at (ρ' := ρ') (S' := S) (sfor_at (ds := ds) rfl e)]
  have sh : ∃ z, ρ' = [some (tupS cs), some (.tup ds), some (.int 5), z] := by
    match ρ', k with
    | [a, b, c, d], k => cases k; exact ⟨d, rfl⟩
  obtain ⟨z, rfl⟩ := sh
  obtain ⟨ss, s, ef⟩ := h.fs
  refine ret_at (call_at (one_at (lc_at (f := fstD) (ds := ds) rfl ?_ fun d hd => ?_)) (S1 := S) ?_)
  · have := h.len
    have := nsets_len cs hc
    omega
  · obtain ⟨c, hc, p⟩ := h.at_ d hd
    obtain ⟨x, y, z, u, rfl⟩ := hP c d p
    rfl
  · rw [ef]
    exact asc3 (by have := s.length_le; have := hc.l3; omega) (hc.up.sublist s)
/-- a row of reads -/
def RdRow (first : Bool) (c : Str) (d : Dat) : Prop := ∃ (side : Str) (deeds : List Str), side ∈ sidesL ∧ (first = true → side ∈ (["narrow", "either"] : List Str)) ∧ deeds ∈ deedsL ∧ d = .tup [.str c, .str side, tupS deeds]
theorem read_ok {first : Bool} {c : Str} {d : Dat} (h : RdRow first c d) : L__is_read [d] S = .ok (.bl true) S := by
  obtain ⟨side, deeds, h1, _, h2, rfl⟩ := h
  exact map_eq (read_at S c) (side, deeds) (mem_prs h1 h2)
/-- a row of writes -/
def WrRow (first : Bool) (srcs : List Str) (c : Str) (d : Dat) : Prop := ∃ (how rule src : Str) (pace : Int), how ∈ howsL ∧ (first = true → how = "narrow") ∧ rule ∈ rulesL ∧ (0 ≤ pace ∧ pace < 100) ∧ (src ≠ "" → src ∈ srcs ∧ src ≠ c) ∧ d = .tup [.str c, .str how, .str rule, .str src, .int pace]
abbrev wrC : Env → M Bool := bOr (bTest (xOp (dInS true) (xVar 3) (xC (strsT ["narrow", "wide", "both", "narrow first", "wide first"])))) (bOr (bTest (xOp (dInS true) (xVar 4) (xC (strsT ["cut", "empty", "refuse"])))) (bNot (bTest (xCall L_is_between (xCons (xVar 6) (xCons (xC (.int 0)) (xCons (xC (.int 99)) xNil)))))))
theorem btw_at {S : List Dat} {p : Int} (h : 0 ≤ p ∧ p < 100) : L_is_between [.int p, .int 0, .int 99] S = .ok (.bl true) S := by
  refine run_at (ret_at ?_)
  have e := ch2 (S := S) (ρ := [some (.int p), some (.int 0), some (.int 99)]) (a := xVar 1) (b := xVar 0) (c := xVar 2) (i := 0) (j := p) (k := 99) rfl rfl rfl
  rw [decide_eq_true h.1, decide_eq_true (show p ≤ 99 by omega)] at e
  exact and_b (x := true) (y := true) rfl e
theorem wrC_at {l r c src : Dat} {how rule : Str} {p : Int} (h1 : how ∈ howsL) (h2 : rule ∈ rulesL) (h3 : 0 ≤ p ∧ p < 100) : wrC [some l, some r, some c, some (.str how), some (.str rule), some src, some (.int p)] S = .ok false S := by
  refine (or_f (S' := S) (test_at (op_at (x := .str how) (y := tupS howsL) rfl rfl (in_at h1)))).trans ?_
  refine (or_f (S' := S) (test_at (op_at (x := .str rule) (y := tupS rulesL) rfl rfl (in_at h2)))).trans ?_
  exact not_at (test_at (call_at (S1 := S) (ds := [.int p, .int 0, .int 99]) rfl (btw_at h3)))
theorem write_ok {first : Bool} {srcs : List Str} {c : Str} {d : Dat} (h : WrRow first srcs c d) : L__is_write [lstS srcs, d] S = .ok (.bl true) S := by
  obtain ⟨how, rule, src, pace, h1, _, h2, h3, h4, rfl⟩ := h
  refine run_at ?_
  rw [seq_at (ρ' := [some (lstS srcs), some (.tup [.str c, .str how, .str rule, .str src, .int pace]), some (.str c), some (.str how), some (.str rule), some (.str src), some (.int pace)]) (S' := S) rfl]
  have e : wrC [some (lstS srcs), some (.tup [.str c, .str how, .str rule, .str src, .int pace]), some (.str c), some (.str how), some (.str rule), some (.str src), some (.int pace)] S = .ok false S := wrC_at h1 h2 h3
  rw [seq_at (S' := S) ((if_f e).trans rfl)]
  refine ret_at ?_
  by_cases hs : src = ""
  · subst hs
    rfl
  · obtain ⟨k1, k2⟩ := h4 hs
    rw [or_fV (S' := S) (op_at (x := .str src) (y := .str "") rfl rfl (by rw [eqS_at, decide_eq_false hs]))]
    rw [and_t (S' := S) (op_at (x := .str src) (y := lstS srcs) rfl rfl (in_atL k1))]
    exact op_at (x := .str src) (y := .str c) rfl rfl (by rw [neS_at, decide_eq_false k2] <;> rfl)
def firsts (ds : List Dat) : List Str := (strsD (ds.map fstD)).getD []
theorem firsts_of {ds : List Dat} {ss : List Str} (h : ds.map fstD = ss.map .str) : firsts ds = ss := by
  unfold firsts
  rw [h, strsD_map] <;> rfl
/-- an edition -/
structure Edn (first : Bool) (cs : List Str) (sight : Str) (rs ws : List Dat) : Prop where
  s : sight ∈ (["narrow", "wide"] : List Str)
  r : Rows (RdRow first) cs rs
  w : Rows (WrRow first (firsts rs)) cs ws
def EdnD (first : Bool) (cs : List Str) (d : Dat) : Prop := ∃ (sight : Str) (rs ws : List Dat), d = .tup [.str sight, .tup rs, .tup ws] ∧ Edn first cs sight rs ws
theorem sight_at (a b c d e : Option Dat) (S : List Dat) : ((["narrow", "wide"] : List Str).map fun q : Str => bTest (xOp (dInS true) (xVar 2) (xC (strsT ["narrow", "wide"]))) [a, b, some (.str q), c, d, e, none] S) = (["narrow", "wide"] : List Str).map fun _ => .ok false S := by kernel_rfl
theorem edition_ok {first : Bool} {cs : List Str} {d : Dat} (hc : NmS cs) (h : EdnD first cs d) : L__is_edition [tupS cs, d] S = .ok (.bl true) S := by
  obtain ⟨sight, rs, ws, rfl, E⟩ := h
  refine run_at ?_
  rw [seq_at (ρ' := [some (tupS cs), some (.tup [.str sight, .tup rs, .tup ws]), none, none, none, none, none]) (S' := S) rfl]
  rw [seq_at (ρ' := [some (tupS cs), some (.tup [.str sight, .tup rs, .tup ws]), some (.str sight), some (.tup rs), some (.tup ws), none, none]) (S' := S) rfl]
  have ls := nsets_len cs hc
  have lr := E.r.len
  have lw := E.w.len
  have c1 := map_eq (sight_at (some (tupS cs)) (some (.tup [.str sight, .tup rs, .tup ws])) (some (.tup rs)) (some (.tup ws)) none S) sight E.s
  have c2 : L__are_rows [tupS cs, .tup rs, .int 3] S = .ok (.bl true) S := rows3 hc E.r fun c d ⟨side, deeds, _, _, _, e⟩ => ⟨_, _, e⟩
  have c3 : L__are_rows [tupS cs, .tup ws, .int 5] S = .ok (.bl true) S := rows5 hc E.w fun c d ⟨how, rule, src, pace, _, _, _, _, _, e⟩ => ⟨_, _, _, _, e⟩
  rw [seq_at (S' := S) ((if_f (S' := S) ?_).trans rfl)]
  rotate_left
  · rw [or_f (S' := S) c1]
    rw [or_f (S' := S) (not_at (test_at (call_at (S1 := S) (ds := [tupS cs, .tup rs, .int 3]) rfl c2)))]
    exact not_at (test_at (call_at (S1 := S) (ds := [tupS cs, .tup ws, .int 5]) rfl c3))
  rw [seq_at (S' := S) ((if_f (S' := S) (not_at (test_at (all_at (ds := rs) rfl (by omega) fun d hd => ?_)))).trans rfl)]
  rotate_left
  · obtain ⟨c, _, p⟩ := E.r.at_ d hd
    exact call_at (S1 := S) (ds := [d]) rfl (read_ok p)
  obtain ⟨ss, s, ef⟩ := E.r.fs
  have c4 := lc_at (S := S) (ρ := [some (tupS cs), some (.tup [.str sight, .tup rs, .tup ws]), some (.str sight), some (.tup rs), some (.tup ws), none, none]) (f := fstD) (it := iTp (xVar 3)) (e := xOp dIxT (xVar 6) (xC (.int 0))) (i := 6) (vs := [6]) (ds := rs) rfl (by omega) fun d hd => by
    obtain ⟨c, _, side, deeds, _, _, _, rfl⟩ := E.r.at_ d hd
    rfl
  rw [ef] at c4
  have fe := firsts_of ef
  rw [seq_at (ρ' := [some (tupS cs), some (.tup [.str sight, .tup rs, .tup ws]), some (.str sight), some (.tup rs), some (.tup ws), some (lstS ss), none]) (S' := S) (by
    unfold sAsg
    rw [m_bind, c4] <;> rfl)]
  refine ret_at (all_at (ds := ws) rfl (by omega) fun d hd => ?_)
  obtain ⟨c, _, p⟩ := E.w.at_ d hd
  rw [fe] at p
  exact call_at (S1 := S) (ds := [lstS ss, d]) rfl (write_ok p)
end
section
variable {S : List Dat} {ρ : Env}
theorem first_ok {cs : List Str} {d : Dat} (hc : NmS cs) (h : EdnD true cs d) : L__is_first_edition [d] S = .ok (.bl true) S := by
  obtain ⟨sight, rs, ws, rfl, E⟩ := h
  have ls := nsets_len cs hc
  have lr := E.r.len
  have lw := E.w.len
  refine run_at ?_
  rw [seq_at (ρ' := [some (.tup [.str sight, .tup rs, .tup ws]), some (.str sight), some (.tup rs), some (.tup ws), none]) (S' := S) rfl]
  rw [seq_at (S' := S) ((if_f (S' := S) (not_at (test_at (all_at (ds := rs) rfl (by omega) fun d hd => ?_)))).trans rfl)]
  rotate_left
  · obtain ⟨c, _, side, deeds, _, k, _, rfl⟩ := E.r.at_ d hd
    exact op_at (x := .str side) (y := tupS ["narrow", "either"]) rfl rfl (in_at (k rfl))
  refine ret_at (all_at (ds := ws) rfl (by omega) fun d hd => ?_)
  obtain ⟨c, _, how, rule, src, pace, _, k, _, _, _, rfl⟩ := E.w.at_ d hd
  refine op_at (x := .str how) (y := .str "narrow") rfl rfl ?_
  rw [eqS_at, decide_eq_true (k rfl)]
/-- a program -/
structure Pgm (cs : List Str) (name : Str) (eds : List Dat) : Prop where
  n : IsNm name
  l1 : 1 ≤ eds.length
  l3 : eds.length ≤ 3
  all : ∀ e, e ∈ eds → ∃ first, EdnD first cs e
  one : ∀ e r, eds = e :: r → EdnD true cs e
def PgmD (cs : List Str) (d : Dat) : Prop := ∃ (name : Str) (eds : List Dat), d = .tup [.str name, .tup eds] ∧ Pgm cs name eds
theorem program_ok {cs : List Str} {d : Dat} (hc : NmS cs) (h : PgmD cs d) : L__is_program [tupS cs, d] S = .ok (.bl true) S := by
  obtain ⟨name, eds, rfl, E⟩ := h
  refine run_at ?_
  rw [seq_at (ρ' := [some (tupS cs), some (.tup [.str name, .tup eds]), none, none, none]) (S' := S) rfl]
  rw [seq_at (ρ' := [some (tupS cs), some (.tup [.str name, .tup eds]), some (.str name), some (.tup eds), none]) (S' := S) rfl]
  rw [seq_at (S' := S) ((if_f (S' := S) ?_).trans rfl)]
  rotate_left
  · rw [or_f (S' := S) (not_at (test_at (call_at (S1 := S) (ds := [.str name]) rfl (is_name_ok E.n))))]
    exact not_at (test_at (call_at (S1 := S) (ds := [.tup eds, .int 1, .int 3]) rfl (tup13 E.l1 E.l3)))
  have l3 := E.l3
  rw [seq_at (S' := S) ((if_f (S' := S) (not_at (test_at (all_at (ds := eds) rfl (by omega) fun d hd => ?_)))).trans rfl)]
  rotate_left
  · obtain ⟨f, k⟩ := E.all d hd
    exact call_at (S1 := S) (ds := [tupS cs, d]) rfl (edition_ok hc k)
  match eds, E, l3 with
  | [], E, _ => exact absurd E.l1 (by decide)
  | [e], E, _ => exact ret_at (call_at (S1 := S) (ds := [e]) rfl (first_ok hc (E.one e _ rfl)))
  | [e, _], E, _ => exact ret_at (call_at (S1 := S) (ds := [e]) rfl (first_ok hc (E.one e _ rfl)))
  | [e, _, _], E, _ => exact ret_at (call_at (S1 := S) (ds := [e]) rfl (first_ok hc (E.one e _ rfl)))
def lateR (d : Dat) : Bool := match d with
  | .tup (_ :: .str how :: _) => isS (.str how) ["narrow first", "wide first"]
  | _ => false
def cntE (d : Dat) : Nat := match d with
  | .tup [_, _, .tup ws] => (ws.filter lateR).length
  | _ => 0
def cntP (d : Dat) : Nat := match d with
  | .tup [_, .tup eds] => (eds.map cntE).sum
  | _ => 0
theorem filt_at {t : Dat → Bool} {c : Env → M Bool} {i : Nat} : ∀ {ds : List Dat}, i < ρ.length → (∀ d, d ∈ ds → c (ρ.set i (some d)) S = .ok (t d) S) → compD (gN i) c (xVar i) ρ ds S = .ok (ds.filter t) S
  | [], _, _ => rfl
  | d :: ds, li, h => by
    have h1 := h d List.mem_cons_self
    have h2 := filt_at (t := t) (c := c) (i := i) li fun d hd => h d (List.mem_cons_of_mem _ hd)
    unfold compD
    show ((c (ρ.set i (some d)) >>= fun b => if b = true then xVar i (ρ.set i (some d)) >>= fun x => compD (gN i) c (xVar i) ρ ds >>= fun xs => pure (x :: xs) else compD (gN i) c (xVar i) ρ ds) : M (List Dat)) S = _
    rw [m_bind, h1]
    cases q : t d with
    | false =>
      rw [List.filter_cons_of_neg (by rw [q]; decide)]
      exact h2
    | true =>
      rw [List.filter_cons_of_pos q]
      show ((xVar i (ρ.set i (some d)) >>= fun x => compD (gN i) c (xVar i) ρ ds >>= fun xs => pure (x :: xs)) : M (List Dat)) S = _
      have hv : xVar i (ρ.set i (some d)) S = .ok d S := by
        unfold xVar
        rw [List.getElem?_set_self li] <;> rfl
      rw [m_bind, hv]
      show ((compD (gN i) c (xVar i) ρ ds >>= fun xs => pure (d :: xs)) : M (List Dat)) S = _
      rw [m_bind, h2] <;> rfl
theorem at_one {x y : Dat} {r : List Dat} : atI (x :: y :: r) 1 = some y := by
  unfold atI ixN
  simp
  rw [if_pos (by omega)]
  rfl
abbrev manyB : Env → M Flow := sAsg (xOp dAdd (xVar 1) (xCB dLen (xCons (xLc (iTp (xVar 4)) (gN 5) (bTest (xOp (dInS false) (xOp dIxT (xVar 5) (xC (.int 1))) (xC (strsT ["narrow first", "wide first"])))) (xVar 5) [5]) xNil))) (gN 1)
theorem manyB_at {a b c e f : Option Dat} {n : Int} {ws : List Dat} {cs : List Str} {P : Str → Dat → Prop} (l : ws.length ≤ 1000) (h : ∀ d, d ∈ ws → ∃ x how r, d = .tup (x :: .str how :: r)) :
    manyB [a, some (.int n), b, c, some (.tup ws), e] S = .ok (.nx [a, some (.int (n + (ws.filter lateR).length)), b, c, some (.tup ws), e]) S := by
  refine asg_at (d := .int (n + (ws.filter lateR).length)) (op_at (x := .int n) (y := .int (ws.filter lateR).length) rfl (cb_at (S1 := S) (ds := [.lst (ws.filter lateR)]) (one_at ?_) rfl) rfl) rfl
  unfold xLc
  rw [m_bind, show iTp (xVar 4) [a, some (.int n), b, c, some (.tup ws), e] S = .ok ws S from rfl]
  show ((M.need (decide (ws.length ≤ 100000)) >>= fun _ => compD (gN 5) _ (xVar 5) [a, some (.int n), b, c, some (.tup ws), none] ws >>= fun es => pure (.lst es)) : M Dat) S = _
  rw [decide_eq_true (show ws.length ≤ 100000 by omega)]
  show ((compD (gN 5) _ (xVar 5) [a, some (.int n), b, c, some (.tup ws), none] ws >>= fun es => pure (.lst es)) : M Dat) S = _
  have hf := filt_at (S := S) (ρ := [a, some (.int n), b, c, some (.tup ws), none]) (t := lateR) (i := 5) (c := bTest (xOp (dInS false) (xOp dIxT (xVar 5) (xC (.int 1))) (xC (strsT ["narrow first", "wide first"])))) (ds := ws) (show 5 < 6 by decide) fun d hd => by
    obtain ⟨x, how, r, rfl⟩ := h d hd
    refine test_at (op_at (x := .str how) (y := strsT ["narrow first", "wide first"]) (op_at (x := .tup (x :: .str how :: r)) (y := .int 1) rfl rfl ?_) rfl ?_)
    · show M.opt (atI (x :: .str how :: r) 1) S = _
      rw [at_one] <;> rfl
    · show Out.ok (Dat.bl (false != isS (.str how) ["narrow first", "wide first"])) S = _
      have e : (false != isS (.str how) ["narrow first", "wide first"]) = isS (.str how) ["narrow first", "wide first"] := by cases isS (.str how) ["narrow first", "wide first"] <;> rfl
      rw [e] <;> rfl
  rw [m_bind, hf] <;> rfl
def edShape (e : Dat) : Prop := ∃ s r ws, e = .tup [s, r, .tup ws] ∧ ws.length ≤ 1000 ∧ ∀ d, d ∈ ws → ∃ x how r, d = .tup (x :: .str how :: r)
theorem many_in : ∀ {eds : List Dat} {a b c d e : Option Dat} {n : Int}, (∀ x, x ∈ eds → edShape x) →
    ∃ b' d', forD (gT 3 (gCo (gN 2) (gCo (gN 2) (gCo (gN 4) gNl)))) manyB eds [a, some (.int n), b, c, d, e] S = .ok (.nx [a, some (.int (n + (eds.map cntE).sum)), b', c, d', e]) S
  | [], a, b, c, d, e, n, _ => ⟨b, d, by
    show Out.ok (Flow.nx _) S = _
    rw [show n + (((([] : List Dat).map cntE).sum : Nat) : Int) = n by simp]⟩
  | x :: eds, a, b, c, d, e, n, h => by
    obtain ⟨s, r, ws, rfl, l, hw⟩ := h x List.mem_cons_self
    obtain ⟨b', d', k⟩ := many_in (eds := eds) (a := a) (b := some r) (c := c) (d := some (.tup ws)) (e := e) (n := n + (ws.filter lateR).length) fun y hy => h y (List.mem_cons_of_mem _ hy)
    refine ⟨b', d', ?_⟩
    unfold forD
    show ((manyB [a, some (.int n), some r, c, some (.tup ws), e] >>= fun f => match f with | .nx ρ2 => forD _ manyB eds ρ2 | .ct ρ2 => forD _ manyB eds ρ2 | .bk ρ2 => pure (.nx ρ2) | .rt d => pure (.rt d)) : M Flow) S = _
    rw [m_bind, manyB_at (cs := []) (P := fun _ _ => True) (f := none) l hw]
    rw [show n + ((((Dat.tup [s, r, .tup ws] :: eds).map cntE).sum : Nat) : Int) = n + (ws.filter lateR).length + ((eds.map cntE).sum : Nat) by
      rw [List.map_cons, List.sum_cons]
      show n + ((((ws.filter lateR).length + (eds.map cntE).sum : Nat)) : Int) = _
      omega]
    exact k
def pgShape (p : Dat) : Prop := ∃ s eds, p = .tup [s, .tup eds] ∧ ∀ x, x ∈ eds → edShape x
abbrev manyP : Env → M Flow := sFor (iTp (xVar 3)) (gT 3 (gCo (gN 2) (gCo (gN 2) (gCo (gN 4) gNl)))) manyB
theorem many_out : ∀ {ps : List Dat} {a b c d e : Option Dat} {n : Int}, (∀ x, x ∈ ps → pgShape x) →
    ∃ b' c' d', forD (gT 2 (gCo (gN 2) (gCo (gN 3) gNl))) manyP ps [a, some (.int n), b, c, d, e] S = .ok (.nx [a, some (.int (n + (ps.map cntP).sum)), b', c', d', e]) S
  | [], a, b, c, d, e, n, _ => ⟨b, c, d, by
    show Out.ok (Flow.nx _) S = _
    rw [show n + (((([] : List Dat).map cntP).sum : Nat) : Int) = n by simp]⟩
  | x :: ps, a, b, c, d, e, n, h => by
    obtain ⟨s, eds, rfl, hw⟩ := h x List.mem_cons_self
    obtain ⟨b1, d1, k1⟩ := many_in (S := S) (eds := eds) (a := a) (b := some s) (c := some (.tup eds)) (d := d) (e := e) (n := n) hw
    obtain ⟨b', c', d', k⟩ := many_out (ps := ps) (a := a) (b := b1) (c := some (.tup eds)) (d := d1) (e := e) (n := n + (eds.map cntE).sum) fun y hy => h y (List.mem_cons_of_mem _ hy)
    refine ⟨b', c', d', ?_⟩
    unfold forD
    show ((manyP [a, some (.int n), some s, some (.tup eds), d, e] >>= fun f => match f with | .nx ρ2 => forD _ manyP ps ρ2 | .ct ρ2 => forD _ manyP ps ρ2 | .bk ρ2 => pure (.nx ρ2) | .rt d => pure (.rt d)) : M Flow) S = _
    have km : manyP [a, some (.int n), some s, some (.tup eds), d, e] S = _ := sfor_at (ds := eds) rfl k1
    rw [m_bind, km]
    rw [show n + ((((Dat.tup [s, .tup eds] :: ps).map cntP).sum : Nat) : Int) = n + (eds.map cntE).sum + ((ps.map cntP).sum : Nat) by
      rw [List.map_cons, List.sum_cons]
      show n + ((((eds.map cntE).sum + (ps.map cntP).sum : Nat)) : Int) = _
      omega]
    exact k
theorem many_ok {ps : List Dat} (h : ∀ x, x ∈ ps → pgShape x) : L__many_in_two_events [.tup ps] S = .ok (.int (ps.map cntP).sum) S := by
  refine run_at ?_
  rw [seq_at (ρ' := [some (.tup ps), some (.int 0), none, none, none, none]) (S' := S) rfl]
  obtain ⟨b', c', d', k⟩ := many_out (S := S) (ps := ps) (a := some (.tup ps)) (b := none) (c := none) (d := none) (e := none) (n := 0) h
  rw [seq_at (S' := S) (sfor_at (ds := ps) rfl k)]
  rw [show (0 : Int) + ((ps.map cntP).sum : Nat) = ((ps.map cntP).sum : Nat) by omega]
  rfl
theorem EdnD.shape {first : Bool} {cs : List Str} {d : Dat} (hc : NmS cs) (h : EdnD first cs d) : edShape d := by
  obtain ⟨sight, rs, ws, rfl, E⟩ := h
  have ls := nsets_len cs hc
  have lw := E.w.len
  refine ⟨_, _, ws, rfl, by omega, fun d hd => ?_⟩
  obtain ⟨c, _, how, rule, src, pace, _, k, _, _, _, rfl⟩ := E.w.at_ d hd
  exact ⟨_, _, _, rfl⟩
theorem PgmD.shape {cs : List Str} {d : Dat} (hc : NmS cs) (h : PgmD cs d) : pgShape d := by
  obtain ⟨name, eds, rfl, E⟩ := h
  exact ⟨_, eds, rfl, fun x hx => (E.all x hx).elim fun f k => k.shape hc⟩
/-- the programs of a world -/
structure Pgms (cs : List Str) (ps : List Dat) : Prop where
  all : ∀ p, p ∈ ps → PgmD cs p
  fs : ∃ ss, NmS ss ∧ ps.map fstD = ss.map .str
  two : (ps.map cntP).sum ≤ 2
theorem comp_at2 {f : Dat → Dat} {e : Env → M Dat} {g : Env → Dat → Option Env} : ∀ {ds : List Dat}, (∀ d, d ∈ ds → ∃ ρ1, g ρ d = some ρ1 ∧ e ρ1 S = .ok (f d) S) → compD g bYes e ρ ds S = .ok (ds.map f) S
  | [], _ => rfl
  | d :: ds, h => by
    obtain ⟨ρ1, h0, h1⟩ := h d List.mem_cons_self
    have h2 := comp_at2 (f := f) (e := e) (g := g) fun d hd => h d (List.mem_cons_of_mem _ hd)
    unfold compD
    rw [h0]
    show ((e ρ1 >>= fun x => compD g bYes e ρ ds >>= fun xs => pure (x :: xs)) : M (List Dat)) S = _
    rw [m_bind, h1]
    show ((compD g bYes e ρ ds >>= fun xs => pure (f d :: xs)) : M (List Dat)) S = _
    rw [m_bind, h2] <;> rfl
theorem programs_ok {cs : List Str} {ps : List Dat} (hc : NmS cs) (h : Pgms cs ps) : L__are_programs [tupS cs, .tup ps] S = .ok (.bl true) S := by
  obtain ⟨ss, hs, ef⟩ := h.fs
  have ls := nsets_len ss hs
  have e2 := congrArg List.length ef
  rw [List.length_map, List.length_map] at e2
  refine run_at ?_
  show sSeq _ _ [some (tupS cs), some (.tup ps), none, none, none] S = _
  rw [seq_at (S' := S) ((if_f (S' := S) (not_at (test_at (call_at (S1 := S) (ds := [.tup ps, .int 1, .int 3]) rfl (tup13 (by omega) (by omega)))))).trans rfl)]
  rw [seq_at (S' := S) ((if_f (S' := S) (not_at (test_at (all_at (ds := ps) rfl (by omega) fun d hd => ?_)))).trans rfl)]
  rotate_left
  · exact call_at (S1 := S) (ds := [tupS cs, d]) rfl (program_ok hc (h.all d hd))
  have c1 : xLc (iTp (xVar 1)) (gT 2 (gCo (gN 3) (gCo (gN 4) gNl))) bYes (xVar 3) [3, 4] [some (tupS cs), some (.tup ps), none, none, none] S = .ok (lstS ss) S := by
    unfold xLc
    rw [m_bind, show iTp (xVar 1) [some (tupS cs), some (.tup ps), none, none, none] S = .ok ps S from rfl]
    show ((M.need (decide (ps.length ≤ 100000)) >>= fun _ => compD _ bYes (xVar 3) [some (tupS cs), some (.tup ps), none, none, none] ps >>= fun es => pure (.lst es)) : M Dat) S = _
    rw [decide_eq_true (show ps.length ≤ 100000 by omega)]
    show ((compD _ bYes (xVar 3) [some (tupS cs), some (.tup ps), none, none, none] ps >>= fun es => pure (.lst es)) : M Dat) S = _
    rw [m_bind, comp_at2 (f := fstD) fun d hd => by
      obtain ⟨name, eds, rfl, _⟩ := h.all d hd
      exact ⟨_, rfl, rfl⟩, ef] <;> rfl
  rw [seq_at (S' := S) ((if_f (S' := S) (not_at (test_at (call_at (S1 := S) (ds := [lstS ss]) (one_at c1) (asc3 hs.l3 hs.up))))).trans rfl)]
  refine ret_at (op_at (x := .int (ps.map cntP).sum) (y := .int 2) (call_at (S1 := S) (ds := [.tup ps]) rfl (many_ok fun x hx => (h.all x hx).shape hc)) rfl ?_)
  show Out.ok (Dat.bl (decide (((ps.map cntP).sum : Int) ≤ 2))) S = _
  have t := h.two
  rw [decide_eq_true (show ((ps.map cntP).sum : Int) ≤ 2 by omega)]
end
end Zd
namespace Zd
open PySem PySem.Spec PyProof.Rows L2 Zg
theorem of_wp {α : Type} {m : M α} {d : α} {S S' : List Dat} (h : wp m S fun a S1 => a = d ∧ S1 = S') : m S = .ok d S' := by
  obtain ⟨a, S1, e, h1, h2⟩ := wp_ok h
  rw [e, h1, h2]
def small : Str := "abcdefghijklmnopqrstuvwxyz"
abbrev ch (c : Nat) : Str := ⟨#[c]⟩
theorem let_at (S : List Dat) : ((List.range 26).map fun n : Nat => dIxS (.str small) (.int (n : Int)) S) = (List.range 26).map fun n : Nat => .ok (.str (ch (97 + n))) S := by kernel_rfl
theorem let_n {S : List Dat} {n : Nat} (h : n < 26) : dIxS (.str small) (.int (n : Int)) S = .ok (.str (ch (97 + n))) S := map_eq (let_at S) n (List.mem_range.mpr h)
section
variable {ℓ : Nat}
theorem w_letter {k : Nat} {S : List Dat} {C : Dat → List Dat → Prop} (h : Pot ℓ (k + 1) S) (q : ∀ n S', n < 26 → Pot ℓ k S' → FrE ℓ S S' → C (.str (ch (97 + n))) S') : wp (L__law_ofS [.loc ℓ, .str small]) S C := by
  refine wp_run (wp_ret (wp_op (wp_of (a := .str small) (S' := S) rfl (wp_call (wp_cons (wp_of (a := .loc ℓ) (S' := S) rfl (wp_cons (wp_of (a := .int 26) (S' := S) rfl (wp_nil ?_)))))))))
  refine w_takeE h (by decide) (by decide) fun r S' r0 r1 hp hf => ?_
  obtain ⟨n, rfl⟩ := Int.eq_ofNat_of_zero_le r0
  have hn : n < 26 := by omega
  exact wp_of (let_n hn) (q n S' hn hp hf)
theorem glue_to (e : (("" : Str)).cps = #[]) : ∀ (r : List Nat) (a : Array Nat), ((r.map ch).foldl (fun acc p => acc ++ (("" : Str)).cps ++ p.cps) a).toList = a.toList ++ r
  | [], a => by simp
  | c :: r, a => by
    rw [List.map_cons, List.foldl_cons, glue_to e r, e]
    simp
theorem join_ch (cs : List Nat) : (Txt.join "" (cs.map ch)).cps.toList = cs := by
  match cs with
  | [] => rfl
  | c :: r =>
    show (((r.map ch).foldl (fun acc p => acc ++ (("" : Str)).cps ++ p.cps) #[c])).toList = _
    rw [glue_to rfl] <;> rfl
theorem sum_ch : ∀ cs : List Nat, ((cs.map ch).map (·.length)).sum = cs.length
  | [] => rfl
  | c :: r => by
    rw [List.map_cons, List.map_cons, List.sum_cons, sum_ch r, List.length_cons]
    show 1 + r.length = _
    omega
theorem wp_join {ρ : Env} {S : List Dat} {m : Env → M Dat} {C : Dat → List Dat → Prop} (h : wp (m ρ) S fun d S' => ∃ cs : List Nat, d = .lst ((cs.map ch).map .str) ∧ cs.length ≤ 1000 ∧ ∀ st : Str, st.cps.toList = cs → C (.str st) S') : wp (xJoin (xC (.str "")) m ρ) S C := by
  refine wp_bind (wp_of (a := .str "") (S' := S) rfl (wp_opt (o := sT (.str "")) (a := "") rfl (wp_bind (wp_mono h fun d S' ⟨cs, e, l, k⟩ => ?_))))
  subst e
  refine wp_opt (o := dLst (.lst ((cs.map ch).map .str))) (a := (cs.map ch).map .str) rfl (wp_opt (a := cs.map ch) (strsD_map _) (wp_need (decide_eq_true ?_) (k _ (join_ch cs))))
  rw [sum_ch]
  show cs.length + _ * 0 ≤ _
  omega
/-- the stem -/
abbrev stemT : Env → M Dat := xJoin (xC (.str "")) (xLc (iRg1 (xCons (xCall L__law_of (xCons (xVar 0) (xCons (xLst (xCons (xC (.int 0)) (xCons (xC (.int 0)) (xCons (xC (.int 1)) (xCons (xC (.int 3)) (xCons (xC (.int 7)) xNil)))))) xNil))) xNil)) (gN 6) bYes (xCall L__law_ofS (xCons (xVar 0) (xCons (xVar 2) xNil))) [6])
theorem wp_rg1 {l : Env → M (List Dat)} {ρ : Env} {S : List Dat} {C : List Dat → List Dat → Prop} (h : wp (l ρ) S fun ds S' => ∃ n : Nat, ds = [.int (n : Int)] ∧ n ≤ 1000 ∧ C (intsD 0 n) S') : wp (iRg1 l ρ) S C := by
  obtain ⟨ds, S1, e, n, ed, ln, k⟩ := wp_ok h
  subst ed
  refine wp_of ?_ k
  unfold iRg1
  rw [m_bind, e]
  show (M.need (decide (-(2 ^ 62) ≤ (n : Int) ∧ (n : Int) < 2 ^ 62)) >>= fun _ => pure (intsD 0 (n : Int).toNat) : M (List Dat)) S1 = _
  rw [decide_eq_true (by omega), Int.toNat_natCast]
  rfl
theorem w_stem {k : Nat} {S : List Dat} {a c d e f g : Option Dat} {C : Dat → List Dat → Prop} (h : Pot ℓ (k + 8) S) (q : ∀ (st : Str) S', (∀ c, c ∈ st.cps.toList → 97 ≤ c ∧ c < 123) → st.cps.toList.length ≤ 7 → Pot ℓ k S' → FrE ℓ S S' → C (.str st) S') : wp (stemT [some (.loc ℓ), a, some (.str small), c, d, e, f, g]) S C := by
  refine wp_join (wp_lc ?_)
  refine wp_rg1 (wp_cons (wp_call (wp_cons (wp_of (a := .loc ℓ) (S' := S) rfl (wp_cons (wp_of (a := .lst (([0, 0, 1, 3, 7] : List Int).map .int)) (S' := S) rfl (wp_nil ?_)))))))
  have h : Pot ℓ (k + 7 + 1) S := h
  refine w_ofIE [0, 0, 1, 3, 7] h (by decide) (by decide) fun x S1 hx hp hf => wp_nil ?_
  obtain ⟨n, rfl, n7⟩ : ∃ n : Nat, x = (n : Int) ∧ n ≤ 7 := by
    simp only [List.mem_cons, List.not_mem_nil, or_false] at hx
    exact ⟨x.toNat, by omega, by omega⟩
  refine ⟨n, rfl, by omega, by rw [intsD_len]; omega, ?_⟩
  refine wp_comp (I := fun ds acc S' => ∃ cs : List Nat, acc = (cs.map ch).map .str ∧ (∀ c, c ∈ cs → 97 ≤ c ∧ c < 123) ∧ cs.length + ds.length = n ∧ Pot ℓ (k + ds.length) S' ∧ FrE ℓ S S') (fun d ds acc S2 ⟨cs, ea, hc, hl, hp2, hf2⟩ => ?_) _ [] S1 _ ⟨[], rfl, nofun, by rw [intsD_len]; simp, (by rw [intsD_len]; exact hp.le (by omega)), hf⟩ fun xs S2 ⟨cs, ea, hc, hl, hp2, hf2⟩ => ?_
  · refine ⟨_, rfl, ?_⟩
    have hp2 : Pot ℓ (k + ds.length + 1) S2 := hp2
    refine wp_call (wp_cons (wp_of (a := .loc ℓ) (S' := S2) rfl (wp_cons (wp_of (a := .str small) (S' := S2) rfl (wp_nil ?_)))))
    refine w_letter hp2 fun m S3 hm hp3 hf3 => ⟨cs ++ [97 + m], by rw [ea, List.map_append, List.map_append] <;> rfl, fun c hc' => ?_, by rw [List.length_append]; rw [List.length_cons] at hl; simp; omega, hp3, hf2.trans hf3⟩
    rcases List.mem_append.mp hc' with z | z
    · exact hc c z
    · rw [List.mem_singleton.mp z]
      omega
  · rw [List.nil_append] at ea
    rw [List.length_nil, Nat.add_zero] at hl
    exact ⟨cs, by rw [ea], by omega, fun st es => q st S2 (by rw [es]; exact hc) (by rw [es]; omega) hp2 hf2⟩
end
def nmL (L : List Nat) (p a i : Nat) : List Nat := L.take p ++ [97 + (a + 5 * i) % 26] ++ L.drop p
def nmK (L : List Nat) (p a i : Nat) : Str := ⟨(nmL L p a i).toArray⟩
theorem nmL_inj {L : List Nat} {p a i j : Nat} (hi : i < 3) (hj : j < 3) (e : nmL L p a i = nmL L p a j) : i = j := by
  unfold nmL at e
  rw [List.append_assoc, List.append_assoc] at e
  have e := List.append_cancel_left e
  injection e with e _
  omega
theorem nmK_nm {L : List Nat} {p a i : Nat} (hL : ∀ c, c ∈ L → 97 ≤ c ∧ c < 123) (l7 : L.length ≤ 7) : IsNm (nmK L p a i) := by
  have e : (nmK L p a i).cps.toList = nmL L p a i := rfl
  have ln : (nmL L p a i).length = L.length + 1 := by
    unfold nmL
    simp only [List.length_append, List.length_take, List.length_drop, List.length_singleton]
    omega
  refine ⟨fun c hc => ?_, by rw [e, ln]; omega, by rw [e, ln]; omega⟩
  rw [e] at hc
  unfold nmL at hc
  rcases List.mem_append.mp hc with hc | hc
  · rcases List.mem_append.mp hc with hc | hc
    · exact hL c (List.mem_of_mem_take hc)
    · rw [List.mem_singleton.mp hc]
      omega
  · exact hL c (List.mem_of_mem_drop hc)
abbrev nameT : Env → M Dat := xCB dStrS (xCons (xOp dAddS (xOp dAddS (jSl dCutX (xVar 3) oNone (oSome (xVar 4))) (xOp dIxS (xVar 2) (xOp dMod (xCB dInt (xCons (xOp dAdd (xVar 5) (xOp dMul (xC (.int 5)) (xVar 7))) xNil)) (xC (.int 26))))) (jSl dCutX (xVar 3) (oSome (xVar 4)) oNone)) xNil)
theorem str_ext {a b : Str} (h : a.cps.toList = b.cps.toList) : a = b := by
  cases a
  cases b
  simp at h
  rw [h]
theorem sIx_n {n p : Nat} (d : Nat) (h : p ≤ n) : HT.sIx n d (some (p : Int)) = p := by
  unfold HT.sIx
  dsimp only
  rw [if_neg (by omega)]
  omega
theorem name_at {S : List Dat} {l m : Option Dat} {st : Str} {p a i : Nat} (hp : p ≤ st.length) (hl : st.length ≤ 1000) (hi : i ≤ 1000) : nameT [l, m, some (.str small), some (.str st), some (.int (p : Int)), some (.int (a : Int)), none, some (.int (i : Int))] S = .ok (.str (nmK st.cps.toList p a i)) S := by
  have c1 : jSl dCutX (xVar 3) oNone (oSome (xVar 4)) [l, m, some (.str small), some (.str st), some (.int (p : Int)), some (.int (a : Int)), none, some (.int (i : Int))] S = .ok (.str ⟨(st.cps.toList.take p).toArray⟩) S := by
    show ((M.need (decide (st.length ≤ 100000)) >>= fun _ => pure (.str (cutS st none (some (p : Int))))) : M Dat) S = _
    rw [decide_eq_true (by omega)]
    have e : cutS st none (some (p : Int)) = ⟨(st.cps.toList.take p).toArray⟩ := by
      unfold cutS
      rw [sIx_n _ hp]
      show Str.mk (List.take (p - 0) (List.drop 0 st.cps.toList)).toArray = _
      rw [Nat.sub_zero, List.drop_zero]
    rw [e] <;> rfl
  have c3 : jSl dCutX (xVar 3) (oSome (xVar 4)) oNone [l, m, some (.str small), some (.str st), some (.int (p : Int)), some (.int (a : Int)), none, some (.int (i : Int))] S = .ok (.str ⟨(st.cps.toList.drop p).toArray⟩) S := by
    show ((M.need (decide (st.length ≤ 100000)) >>= fun _ => pure (.str (cutS st (some (p : Int)) none))) : M Dat) S = _
    rw [decide_eq_true (by omega)]
    have e : cutS st (some (p : Int)) none = ⟨(st.cps.toList.drop p).toArray⟩ := by
      unfold cutS
      rw [sIx_n _ hp]
      show Str.mk (List.take (st.length - p) (List.drop p st.cps.toList)).toArray = _
      rw [List.take_of_length_le (by rw [List.length_drop, Array.length_toList]; exact Nat.le_refl _)]
    rw [e] <;> rfl
  have c2 : xOp dIxS (xVar 2) (xOp dMod (xCB dInt (xCons (xOp dAdd (xVar 5) (xOp dMul (xC (.int 5)) (xVar 7))) xNil)) (xC (.int 26))) [l, m, some (.str small), some (.str st), some (.int (p : Int)), some (.int (a : Int)), none, some (.int (i : Int))] S = .ok (.str (ch (97 + (a + 5 * i) % 26))) S := by
    refine of_wp (wp_op (wp_of (a := .str small) (S' := S) rfl (wp_op (wp_cb (wp_cons (wp_op (wp_of (a := .int (a : Int)) (S' := S) rfl (wp_op (wp_of (a := .int 5) (S' := S) rfl (wp_of (a := .int (i : Int)) (S' := S) rfl (w_mul (.inl (by decide)) (w_add (wp_nil (w_int ?_)))))))))))))) 
    refine wp_of (a := .int 26) (S' := S) rfl (w_mod (by decide) ?_)
    have e : ((a : Int) + 5 * (i : Int)) % 26 = (((a + 5 * i) % 26 : Nat) : Int) := by omega
    rw [e]
    exact wp_of (let_n (by omega)) ⟨rfl, rfl⟩
  have l1 : (⟨(st.cps.toList.take p).toArray⟩ : Str).length ≤ 1000 := by
    show (st.cps.toList.take p).toArray.size ≤ _
    rw [List.size_toArray, List.length_take]
    omega
  have l3 : (⟨(st.cps.toList.drop p).toArray⟩ : Str).length ≤ 1000 := by
    show (st.cps.toList.drop p).toArray.size ≤ _
    rw [List.size_toArray, List.length_drop, Array.length_toList]
    have : st.cps.size = st.length := rfl
    omega
  generalize hA : (⟨(st.cps.toList.take p).toArray⟩ : Str) = A at c1 l1
  generalize hB : (⟨(st.cps.toList.drop p).toArray⟩ : Str) = B at c3 l3
  have a1 : ∀ x y : Str, x.length ≤ 2000 → y.length ≤ 2000 → dAddS (.str x) (.str y) S = .ok (.str (x ++ y)) S := fun x y hx hy => by
    show ((M.need (decide (x.length + y.length ≤ 100000)) >>= fun _ => pure (.str (x ++ y))) : M Dat) S = _
    rw [decide_eq_true (by omega)] <;> rfl
  have l12 : (A ++ ch (97 + (a + 5 * i) % 26)).length ≤ 2000 := by
    show (A.cps ++ #[_]).size ≤ _
    have : A.cps.size = A.length := rfl
    rw [Array.size_append]
    show A.cps.size + 1 ≤ _
    omega
  have fin : A ++ ch (97 + (a + 5 * i) % 26) ++ B = nmK st.cps.toList p a i := by
    refine str_ext ?_
    show ((A.cps ++ #[_]) ++ B.cps).toList = nmL st.cps.toList p a i
    rw [← hA, ← hB, Array.toList_append, Array.toList_append] <;> rfl
  rw [← fin]
  exact cb_at (S1 := S) (ds := [.str (A ++ ch (97 + (a + 5 * i) % 26) ++ B)]) (one_at (op_at (op_at c1 c2 (a1 _ _ (by omega) (by show 1 ≤ 2000; omega))) c3 (a1 _ _ l12 (by omega)))) rfl
end Zd
namespace Zd
open PySem PySem.Spec PyProof.Rows L2 Zg
theorem strsL_map : ∀ ss : List Str, strsL (ss.map .str) = some ss
  | [] => rfl
  | s :: r => by
    show (strsL (r.map .str)).map (s :: ·) = _
    rw [strsL_map r] <;> rfl
theorem sorted_at {S : List Dat} {ss : List Str} (h : ss.length < 64) : dSorted [lstS ss] S = .ok (lstS (sortS ss)) S := by
  show ((M.opt (strsL (ss.map .str)) >>= fun zs => M.need (decide (zs.length < 64)) >>= fun _ => pure (.lst ((sortS zs).map .str))) : M Dat) S = _
  rw [strsL_map]
  show ((M.need (decide (ss.length < 64)) >>= fun _ => pure (.lst ((sortS ss).map .str))) : M Dat) S = _
  rw [decide_eq_true h] <;> rfl
theorem sort_up {ss : List Str} (h : ss.Nodup) : (sortS ss).Pairwise ltN := by
  have k := (sortS_perm ss).symm.nodup h
  have s := sortS_sorted ss
  rw [List.nodup_iff_pairwise_ne] at k
  refine (k.and s).imp fun ⟨ne, le⟩ => ?_
  refine Decidable.byContradiction fun n => ne (leS_anti le ?_)
  exact n
theorem nmS_sort {ss : List Str} (h : ss.Nodup) (hn : ∀ s, s ∈ ss → IsNm s) (l1 : 1 ≤ ss.length) (l3 : ss.length ≤ 3) : NmS (sortS ss) := ⟨fun s m => hn s ((sortS_perm ss).mem_iff.mp m), by rw [(sortS_perm ss).length_eq]; exact l1, by rw [(sortS_perm ss).length_eq]; exact l3, sort_up h⟩
def nms (L : List Nat) (p a m : Nat) : List Str := (List.range m).map (nmK L p a)
theorem nms_nd {L : List Nat} {p a m : Nat} (hm : m ≤ 3) : (nms L p a m).Nodup := by
  unfold nms
  rw [List.nodup_iff_pairwise_ne, List.pairwise_map]
  refine (List.nodup_range (n := m)).imp_of_mem fun {i j} hi hj ne e => ne (nmL_inj (L := L) (p := p) (a := a) (by have := List.mem_range.mp hi; omega) (by have := List.mem_range.mp hj; omega) ?_)
  have e2 := congrArg (fun s : Str => s.cps.toList) e
  exact e2
section
variable {ℓ : Nat}
theorem w_names {k m : Nat} {S : List Dat} {C : Dat → List Dat → Prop} (h : Pot ℓ (k + 10) S) (m1 : 1 ≤ m) (m3 : m ≤ 3) (q : ∀ ss S', NmS ss → ss.length = m → Pot ℓ k S' → FrE ℓ S S' → C (lstS ss) S') : wp (L__law_names [.loc ℓ, .int (m : Int)]) S C := by
  refine wp_run (wp_seq (wp_asg (wp_of (a := .str small) (S' := S) rfl ?_)))
  refine ⟨_, rfl, ?_⟩
  dsimp only
  have h : Pot ℓ (k + 2 + 8) S := h
  refine wp_seq (wp_asg (w_stem h fun st S1 hc l7 hp1 f1 => ?_))
  refine ⟨_, rfl, ?_⟩
  dsimp only
  have ll : st.length = st.cps.toList.length := by rw [Array.length_toList] <;> rfl
  refine wp_seq (wp_asg (wp_tup (wp_cons (wp_call (wp_cons (wp_of (a := .loc ℓ) (S' := S1) rfl (wp_cons (wp_op (wp_cb (wp_cons (wp_of (a := .str st) (S' := S1) rfl (wp_nil (wp_of (a := .int (st.length : Int)) (S' := S1) (lenS_at (by omega)) ?_)))))))))))))
  refine wp_of (a := .int 1) (S' := S1) rfl (w_add (wp_nil ?_))
  have hp1 : Pot ℓ (k + 1 + 1) S1 := hp1
  refine w_takeE hp1 (by omega) (by omega) fun r S2 r0 r1 hp2 f2 => ?_
  obtain ⟨p, rfl⟩ := Int.eq_ofNat_of_zero_le r0
  refine wp_cons (wp_call (wp_cons (wp_of (a := .loc ℓ) (S' := S2) rfl (wp_cons (wp_of (a := .int 26) (S' := S2) rfl (wp_nil ?_))))))
  refine w_takeE hp2 (by decide) (by decide) fun r S3 r0 r2 hp3 f3 => ?_
  obtain ⟨a, rfl⟩ := Int.eq_ofNat_of_zero_le r0
  refine wp_nil ⟨(by decide : 2 ≤ 1000), ?_⟩
  refine ⟨_, rfl, ?_⟩
  dsimp only
  have e : xCB dSorted (xCons (xLc (iRg1 (xCons (xVar 1) xNil)) (gN 7) bYes nameT [7]) xNil) [some (.loc ℓ), some (.int (m : Int)), some (.str small), some (.str st), some (.int (p : Int)), some (.int (a : Int)), none, none] S3 = .ok (lstS (sortS (nms st.cps.toList p a m))) S3 := by
    have e1 := lc_at (S := S3) (ρ := [some (.loc ℓ), some (.int (m : Int)), some (.str small), some (.str st), some (.int (p : Int)), some (.int (a : Int)), none, none]) (f := fun d => match d with | .int i => .str (nmK st.cps.toList p a i.toNat) | d => d) (it := iRg1 (xCons (xVar 1) xNil)) (e := nameT) (i := 7) (vs := [7]) (ds := intsD 0 m) (rg1_at rfl (by omega)) (by rw [intsD_len]; omega) fun d hd => by
      unfold intsD at hd
      obtain ⟨i, hi, rfl⟩ := List.mem_map.mp hd
      have := List.mem_range.mp hi
      rw [show (0 : Int) + (i : Int) = (i : Int) by omega]
      exact name_at (by omega) (by omega) (by omega)
    have e2 : ((intsD 0 m).map fun d => match d with | .int i => Dat.str (nmK st.cps.toList p a i.toNat) | d => d) = (nms st.cps.toList p a m).map .str := by
      unfold intsD nms
      rw [List.map_map, List.map_map]
      refine List.map_congr_left fun i _ => ?_
      show Dat.str (nmK st.cps.toList p a ((0 : Int) + (i : Int)).toNat) = Dat.str (nmK st.cps.toList p a i)
      rw [show ((0 : Int) + (i : Int)).toNat = i by omega]
    rw [e2] at e1
    exact cb_at (S1 := S3) (ds := [lstS (nms st.cps.toList p a m)]) (one_at e1) (sorted_at (by unfold nms; rw [List.length_map, List.length_range]; omega))
  have lm : (nms st.cps.toList p a m).length = m := by unfold nms; rw [List.length_map, List.length_range]
  have z := q (sortS (nms st.cps.toList p a m)) S3 (nmS_sort (nms_nd m3) (fun s hs => by
    unfold nms at hs
    obtain ⟨i, _, rfl⟩ := List.mem_map.mp hs
    exact nmK_nm hc l7) (by omega) (by omega)) (by rw [(sortS_perm _).length_eq, lm]) hp3 ((f1.trans f2).trans f3)
  generalize sortS (nms st.cps.toList p a m) = ss at e z
  generalize xCB dSorted (xCons (xLc (iRg1 (xCons (xVar 1) xNil)) (gN 7) bYes nameT [7]) xNil) = T at e ⊢
  exact wp_ret (wp_of e z)
end
end Zd
namespace Zd
open PySem PySem.Spec PyProof.Rows L2 Zg
abbrev Ki : Type := Int × Int
def kP (q : Ki) : Dat := .tup [.int q.1, .int q.2]
structure Kd (n w : Ki) : Prop where
  a : n.1 ≤ 0
  b : 0 ≤ n.2
  c : 15 ≤ n.2 - n.1
  d : w.1 ≤ n.1
  e : n.2 + 16 ≤ w.2
  f : -(10 ^ 18) < w.1
  g : w.2 < 10 ^ 18
structure KdD (n w : Ki) : Prop extends Kd n w where
  f2 : -(10 ^ 17) < w.1
  g2 : w.2 < 10 ^ 17
theorem max_at {S : List Dat} {a b : Int} : dMax [.int a, .int b] S = .ok (.int (if b > a then b else a)) S := rfl
section
variable {ℓ : Nat}
theorem w_kinds {k : Nat} {S : List Dat} {C : Dat → List Dat → Prop} (h : Pot ℓ (k + 7) S) (q : ∀ n w S', KdD n w → Pot ℓ k S' → FrE ℓ S S' → C (.tup [kP n, kP w]) S') : wp (L__law_kinds [.loc ℓ]) S C := by
  refine wp_run ?_
  have h : Pot ℓ (k + 6 + 1) S := h
  refine wp_seq (wp_asg (wp_un (wp_call (wp_cons (wp_of (a := .loc ℓ) (S' := S) rfl (wp_cons (wp_of (a := .lst (([0, 0, 0, 1, 8, 128] : List Int).map .int)) (S' := S) rfl (wp_nil ?_))))))))
  refine w_ofIE [0, 0, 0, 1, 8, 128] h (by decide) (by decide) fun x S1 hx hp1 f1 => ?_
  have x0 : 0 ≤ x ∧ x ≤ 128 := by
    simp only [List.mem_cons, List.not_mem_nil, or_false] at hx
    omega
  have l0 : -x ≤ 0 ∧ -128 ≤ -x := by omega
  clear hx h
  refine wp_of (a := .int (-x)) (S' := S1) rfl ⟨_, rfl, ?_⟩
  generalize -x = lo at l0
  dsimp only
  -- the size
  have hp1 : Pot ℓ (k + 5 + 1) S1 := hp1
  refine wp_seq (wp_asg (wp_call (wp_cons (wp_of (a := .loc ℓ) (S' := S1) rfl (wp_cons (wp_lst (wp_cons (wp_c (wp_cons (wp_c (wp_cons (wp_op (wp_c (wp_call (wp_cons (wp_of (a := .loc ℓ) (S' := S1) rfl (wp_cons (wp_c (wp_nil ?_)))))))))))))))))))
  refine w_takeE hp1 (by decide) (by decide) fun r S2 r0 r1 hp2 f2 => w_add ?_
  refine wp_cons (wp_c (wp_cons (wp_op (wp_op (wp_c (wp_c (w_pow (by decide) (by decide) ?_)))))))
  refine wp_op (wp_c (wp_call (wp_cons (wp_of (a := .loc ℓ) (S' := S2) rfl (wp_cons (wp_op (wp_c (wp_c (w_pow (by decide) (by decide) (wp_nil ?_)))))))))) 
  have hp2 : Pot ℓ (k + 4 + 1) S2 := hp2
  refine w_takeE hp2 (by decide) (by decide) fun s S3 s0 s1 hp3 f3 => w_add ?_
  refine w_mul (.inl (by decide)) ?_
  refine wp_nil ⟨(by decide : 5 ≤ 1000), wp_nil ?_⟩
  have s1 : s < 10000000 := s1
  have e1 : (10 : Int) ^ (2 : Int).toNat * (1 + s) = 100 * (1 + s) := rfl
  rw [e1]
  have hp3 : Pot ℓ (k + 3 + 1) S3 := hp3
  refine w_ofIE [16, 17, 16 + r, 256, 100 * (1 + s)] hp3 (by simp) (by simp) fun sz S4 hsz hp4 f4 => ⟨_, rfl, ?_⟩
  have z0 : 16 ≤ sz ∧ sz ≤ 10 ^ 9 := by
    simp only [List.mem_cons, List.not_mem_nil, or_false] at hsz
    omega
  clear hsz e1 r0 r1 s0 s1 hp1 hp2 hp3
  dsimp only
  -- the high end
  refine wp_seq (wp_asg (wp_cb (wp_cons (wp_c (wp_cons (wp_op (wp_op (wp_of (a := .int lo) (S' := S4) rfl (wp_of (a := .int sz) (S' := S4) rfl (w_add ?_))))))))))
  refine wp_c (w_sub (wp_nil ?_))
  refine wp_of max_at ⟨_, rfl, ?_⟩
  obtain ⟨hi, ehi⟩ : ∃ hi : Int, hi = if lo + sz - 1 > 0 then lo + sz - 1 else 0 := ⟨_, rfl⟩
  rw [← ehi]
  have h0 : 0 ≤ hi ∧ hi ≤ 10 ^ 9 ∧ 15 ≤ hi - lo := by
    subst ehi
    split <;> omega
  clear ehi
  dsimp only
  -- how many more
  have hp4 : Pot ℓ (k + 2 + 1) S4 := hp4
  refine wp_seq (wp_asg (wp_call (wp_cons (wp_of (a := .loc ℓ) (S' := S4) rfl (wp_cons (wp_lst (wp_cons (wp_c (wp_cons (wp_c (wp_cons (wp_op (wp_op (wp_of (a := .int hi) (S' := S4) rfl (wp_of (a := .int lo) (S' := S4) rfl (w_sub ?_))))))))))))))))
  refine wp_c (w_add ?_)
  refine wp_cons (wp_op (wp_c (wp_call (wp_cons (wp_of (a := .loc ℓ) (S' := S4) rfl (wp_cons (wp_c (wp_nil ?_))))))))
  refine w_takeE hp4 (by decide) (by decide) fun r S5 r0 r1 hp5 f5 => w_add ?_
  refine wp_cons (wp_op (wp_op (wp_op (wp_of (a := .int hi) (S' := S5) rfl (wp_of (a := .int lo) (S' := S5) rfl (w_sub ?_))))))
  refine wp_c (w_add ?_)
  refine wp_c (w_mul (.inr (by decide)) ?_) 
  refine wp_cons (wp_op (wp_c (wp_c (w_pow (by decide) (by decide) ?_))))
  refine wp_nil ⟨(by decide : 6 ≤ 1000), wp_nil ?_⟩
  have hp5 : Pot ℓ (k + 1 + 1) S5 := hp5
  refine w_ofIE [16, 33, hi - lo + 1, 16 + r, (hi - lo + 1) * 255, 10 ^ 15] hp5 (by simp) (by simp) fun mo S6 hmo hp6 f6 => ⟨_, rfl, ?_⟩
  have m0 : 16 ≤ mo ∧ mo ≤ 10 ^ 15 := by
    simp only [List.mem_cons, List.not_mem_nil, or_false] at hmo
    omega
  clear hmo r0 r1 hp4 hp5
  dsimp only
  -- the two kinds
  refine wp_ret (wp_tup (wp_cons (wp_tup (wp_cons (wp_of (a := .int lo) (S' := S6) rfl (wp_cons (wp_of (a := .int hi) (S' := S6) rfl (wp_nil ⟨(by decide : 2 ≤ 1000), ?_⟩))))))))
  refine wp_cons (wp_tup (wp_cons (wp_op (wp_of (a := .int lo) (S' := S6) rfl (wp_call (wp_cons (wp_of (a := .loc ℓ) (S' := S6) rfl (wp_cons (wp_of (a := .lst (([0, 0, 1, 200] : List Int).map .int)) (S' := S6) rfl (wp_nil ?_))))))))))
  refine w_ofIE [0, 0, 1, 200] hp6 (by decide) (by decide) fun y S7 hy hp7 f7 => w_sub ?_
  have y0 : 0 ≤ y ∧ y ≤ 200 := by
    simp only [List.mem_cons, List.not_mem_nil, or_false] at hy
    omega
  refine wp_cons (wp_op (wp_of (a := .int hi) (S' := S7) rfl (wp_cb (wp_cons (wp_c (wp_cons (wp_of (a := .int mo) (S' := S7) rfl (wp_nil ?_))))))))
  refine wp_of max_at (w_add ?_)
  refine wp_nil ⟨(by decide : 2 ≤ 1000), wp_nil ⟨(by decide : 2 ≤ 1000), ?_⟩⟩
  refine wp_pure (q (lo, hi) (lo - y, hi + (if mo > 16 then mo else 16)) S7 ⟨⟨by omega, by omega, by omega, ?_, ?_, ?_, ?_⟩, ?_, ?_⟩ hp7 ((((((f1.trans f2).trans f3).trans f4).trans f5).trans f6).trans f7))
  · show lo - y ≤ lo
    omega
  · show hi + 16 ≤ hi + (if mo > 16 then mo else 16)
    split <;> omega
  · show _ < lo - y
    omega
  · show hi + (if mo > 16 then mo else 16) < _
    split <;> omega
  · show _ < lo - y
    omega
  · show hi + (if mo > 16 then mo else 16) < _
    split <;> omega
end
end Zd
namespace Zd
open PySem PySem.Spec PyProof.Rows L2 Zg
theorem Rows.nil {P : Str → Dat → Prop} : Rows P [] [] := ⟨nofun, [], .slnil, rfl⟩
theorem Rows.skip {P : Str → Dat → Prop} {cs : List Str} {ds : List Dat} (c : Str) (h : Rows P cs ds) : Rows P (cs ++ [c]) ds := ⟨fun d hd => (h.at_ d hd).elim fun c' k => ⟨c', List.mem_append_left _ k.1, k.2⟩, h.fs.elim fun ss k => ⟨ss, k.1.trans (List.sublist_append_left _ _), k.2⟩⟩
theorem Rows.put {P : Str → Dat → Prop} {cs : List Str} {ds : List Dat} {c : Str} {d : Dat} (h : Rows P cs ds) (p : P c d) (e : fstD d = .str c) : Rows P (cs ++ [c]) (ds ++ [d]) := ⟨fun x hx => by
  rcases List.mem_append.mp hx with hx | hx
  · exact (h.at_ x hx).elim fun c' k => ⟨c', List.mem_append_left _ k.1, k.2⟩
  · rw [List.mem_singleton.mp hx]
    exact ⟨c, List.mem_append_right _ (List.mem_singleton.mpr rfl), p⟩, h.fs.elim fun ss k => ⟨ss ++ [c], k.1.append (List.Sublist.refl _), by rw [List.map_append, List.map_append, k.2, List.map_singleton, List.map_singleton, e]⟩⟩
abbrev deedT : Env → M Dat := xLc (iEnM (xCons (xLst (xCons (xC (.str "match")) (xCons (xC (.str "order")) (xCons (xC (.str "show")) xNil)))) xNil)) (gT 2 (gCo (gN 8) (gCo (gN 9) gNl))) (bTest (xOp dEq (xOp dMod (xCB dInt (xCons (xOp dDiv (xVar 6) (xOp dIxL (xLst (xCons (xC (.int 1)) (xCons (xC (.int 2)) (xCons (xC (.int 4)) xNil)))) (xVar 8))) xNil)) (xC (.int 2))) (xC (.int 1)))) (xVar 9) [8, 9]
theorem deed_at (a b c d e f g h i : Option Dat) (S : List Dat) : ((List.range 8).map fun n : Nat => deedT [a, b, c, d, e, f, some (.int (n : Int)), g, h, i] S) = (List.range 8).map fun n : Nat => .ok (lstS (deedsL.getD n [])) S := by kernel_rfl
theorem deed_in : ∀ n, n ∈ List.range 8 → deedsL.getD n [] ∈ deedsL := by decide +kernel
theorem tup_of {S : List Dat} {ss : List Str} (h : ss.length ≤ 1000) : dTuple [lstS ss] S = .ok (tupS ss) S := rfl
abbrev readB : Env → M Flow := sSeq (sAsg (xTup (xCons (xCall L__law_of (xCons (xVar 0) (xCons (xVar 2) xNil))) (xCons (xCall L__law_take (xCons (xVar 0) (xCons (xC (.int 8)) xNil))) xNil))) (gT 2 (gCo (gN 5) (gCo (gN 6) gNl))))
    (sSeq (sAsg deedT (gN 7))
    (sIf (bTest (xOp dGt (xCall L__law_take (xCons (xVar 0) (xCons (xC (.int 4)) xNil))) (xC (.int 0)))) (sAppLo (xVar 3) (xCons (xTup (xCons (xVar 4) (xCons (xVar 5) (xCons (xCB dTuple (xCons (xVar 7) xNil)) xNil)))) xNil)) sNx))
section
variable {ℓ : Nat}
structure RdI (first : Bool) (cs : List Str) (k n : Nat) (e1 : Option Dat) (ss : List Str) (S0 : List Dat) (ds : List Dat) (ρ : Env) (S : List Dat) : Prop where
  sh : ∃ done rest acc z4 z5 z6 z7 z8 z9, cs = done ++ rest ∧ ds = rest.map .str ∧ ρ = [some (.loc ℓ), e1, some (lstS ss), some (.loc n), z4, z5, z6, z7, z8, z9] ∧ Pot ℓ (k + 3 * rest.length) S ∧ S[n]? = some (.lst acc) ∧ Rows (RdRow first) done acc
  fr : FrS ℓ S0 S
theorem read_step {first : Bool} {cs : List Str} {k n : Nat} {e1 : Option Dat} {ss : List Str} {S0 : List Dat} (lc : cs.length ≤ 3) (hn : S0.length ≤ n) (hl : n ≠ ℓ) (s0 : 0 < ss.length) (s1 : ss.length ≤ 1000) (hs : ∀ x, x ∈ ss → x ∈ sidesL ∧ (first = true → x ∈ (["narrow", "either"] : List Str)))
    {d : Dat} {ds : List Dat} {ρ : Env} {S : List Dat} (I : RdI (ℓ := ℓ) first cs k n e1 ss S0 (d :: ds) ρ S) :
    ∃ ρ1, gN 4 ρ d = some ρ1 ∧ wp (readB ρ1) S fun f S' => match f with | .nx ρ2 => RdI (ℓ := ℓ) first cs k n e1 ss S0 ds ρ2 S' | _ => False := by
  obtain ⟨⟨done, rest, acc, z4, z5, z6, z7, z8, z9, e, ed, rfl, hp, ha, R⟩, hf⟩ := I
  match rest, ed with
  | c :: rest, ed =>
    injection ed with ed1 ed2
    subst ed1
    subst ed2
    have e' : cs = (done ++ [c]) ++ rest := by rw [e, List.append_assoc] <;> rfl
    have lr := R.len
    have ld : done.length ≤ 3 := by
      have := congrArg List.length e
      rw [List.length_append] at this
      omega
    have hp : Pot ℓ (k + 3 * rest.length + 1 + 1 + 1) S := hp.le (by rw [List.length_cons]; omega)
    refine ⟨_, rfl, wp_seq (wp_asg (wp_tup (wp_cons (wp_call (wp_cons (wp_of (a := .loc ℓ) (S' := S) rfl (wp_cons (wp_of (a := lstS ss) (S' := S) rfl (wp_nil ?_)))))))))⟩
    refine w_ofSE ss hp s0 s1 fun side S1 hside hp1 f1 => ?_
    refine wp_cons (wp_call (wp_cons (wp_of (a := .loc ℓ) (S' := S1) rfl (wp_cons (wp_of (a := .int 8) (S' := S1) rfl (wp_nil ?_))))))
    refine w_takeE hp1 (by decide) (by decide) fun r S2 r0 r1 hp2 f2 => ?_
    obtain ⟨b, rfl⟩ := Int.eq_ofNat_of_zero_le r0
    have hb : b ∈ List.range 8 := List.mem_range.mpr (by omega)
    refine wp_nil ⟨(by decide : 2 ≤ 1000), ?_⟩
    refine ⟨[some (.loc ℓ), e1, some (lstS ss), some (.loc n), some (.str c), some (.str side), some (.int (b : Int)), z7, z8, z9], rfl, ?_⟩
    dsimp only
    have ed := map_eq (deed_at (some (.loc ℓ)) e1 (some (lstS ss)) (some (.loc n)) (some (.str c)) (some (.str side)) z7 z8 z9 S2) b hb
    have hd := deed_in b hb
    generalize deedsL.getD b [] = deeds at ed hd
    have ld7 : deeds.length ≤ 1000 := by
      have : ∀ x, x ∈ deedsL → x.length ≤ 3 := by decide +kernel
      have := this deeds hd
      omega
    refine wp_seq (wp_asg (wp_of ed ?_))
    refine ⟨[some (.loc ℓ), e1, some (lstS ss), some (.loc n), some (.str c), some (.str side), some (.int (b : Int)), some (lstS deeds), z8, z9], rfl, ?_⟩
    dsimp only
    refine wp_if (wp_test (wp_op (wp_call (wp_cons (wp_of (a := .loc ℓ) (S' := S2) rfl (wp_cons (wp_of (a := .int 4) (S' := S2) rfl (wp_nil ?_))))))))
    refine w_takeE hp2 (by decide) (by decide) fun r S3 r0 r1 hp3 f3 => ?_
    have g3 := f3.1.get (f2.1.get (f1.1.get ha hl) hl) hl
    refine wp_of (a := .int 0) (S' := S3) rfl (wp_of (a := .bl (decide (0 < r))) (S' := S3) rfl ⟨_, rfl, fun _ => ?_, fun _ => ?_⟩)
    · refine wp_app (n := n) (xs := acc) rfl g3 (wp_cons (wp_tup (wp_cons (wp_of (a := .str c) (S' := S3) rfl (wp_cons (wp_of (a := .str side) (S' := S3) rfl (wp_cons (wp_cb (wp_cons (wp_of (a := lstS deeds) (S' := S3) rfl (wp_nil (wp_of (tup_of ld7) ?_))))))))))))
      refine wp_nil ⟨(by decide : 3 ≤ 1000), wp_nil ⟨_, acc, rfl, g3, by omega, ?_⟩⟩
      refine ⟨⟨done ++ [c], rest, acc ++ [.tup [.str c, .str side, tupS deeds]], _, _, _, _, _, _, e', rfl, rfl, (hp3.le (by omega)).other hl, set_get g3, R.put ⟨side, deeds, (hs side hside).1, (hs side hside).2, hd, rfl⟩ rfl⟩, ?_⟩
      exact (((hf.trans f1.1).trans f2.1).trans f3.1).setNew hn
    · refine wp_of (a := .nx [some (.loc ℓ), e1, some (lstS ss), some (.loc n), some (.str c), some (.str side), some (.int (b : Int)), some (lstS deeds), z8, z9]) (S' := S3) rfl ?_
      exact ⟨⟨done ++ [c], rest, acc, _, _, _, _, _, _, e', rfl, rfl, hp3.le (by omega), g3, R.skip c⟩, ((hf.trans f1.1).trans f2.1).trans f3.1⟩
theorem w_reads {first : Bool} {cs ss : List Str} {k : Nat} {S : List Dat} {C : Dat → List Dat → Prop} (lc : cs.length ≤ 3) (h : Pot ℓ (k + 9) S) (s0 : 0 < ss.length) (s1 : ss.length ≤ 1000) (hs : ∀ x, x ∈ ss → x ∈ sidesL ∧ (first = true → x ∈ (["narrow", "either"] : List Str)))
    (q : ∀ rs S', Rows (RdRow first) cs rs → Pot ℓ k S' → FrS ℓ S S' → C (.tup rs) S') : wp (L__law_reads [.loc ℓ, tupS cs, lstS ss]) S C := by
  refine wp_run (wp_seq (wp_asg (wp_of (a := .loc S.length) (S' := S ++ [.lst []]) rfl ?_)))
  refine ⟨_, rfl, ?_⟩
  dsimp only
  refine wp_seq (wp_bind (wp_of (a := cs.map .str) (S' := S ++ [.lst []]) rfl ?_))
  have g0 : (S ++ [Dat.lst []])[S.length]? = some (.lst []) := by rw [List.getElem?_append_right (Nat.le_refl _), Nat.sub_self] <;> rfl
  refine wp_for (I := RdI (ℓ := ℓ) first cs k S.length (some (tupS cs)) ss S) (fun d ds ρ S1 I => ?_) (fun ρ S1 I => ?_) _ _ _ ⟨⟨[], cs, [], _, _, _, _, _, _, rfl, rfl, rfl, h.push.le (by omega), g0, .nil⟩, .push⟩
  · obtain ⟨ρ1, e1, w⟩ := read_step lc (Nat.le_refl _) (h.newGet (Nat.le_refl _)) s0 s1 hs I
    refine ⟨ρ1, e1, wp_mono w fun f S2 z => ?_⟩
    cases f with
    | nx ρ2 => exact z
    | ct ρ2 => exact z.elim
    | bk ρ2 => exact z.elim
    | rt d => exact z.elim
  · obtain ⟨⟨done, rest, acc, z4, z5, z6, z7, z8, z9, e, ed, rfl, hp, ha, R⟩, hf⟩ := I
    match rest, ed with
    | [], _ =>
      rw [List.append_nil] at e
      subst e
      refine wp_ret (wp_of (a := .tup acc) (S' := S1) ?_ (wp_pure (q acc S1 R (hp.le (by omega)) hf)))
      show (dTupleLo [.loc S.length] : M Dat) S1 = _
      unfold dTupleLo
      dsimp only
      rw [ha]
end
end Zd
namespace Zd
open PySem PySem.Spec PyProof.Rows L2 Zg
abbrev loreK : List Key := [.inr "late", .inr "narrow", .inr "wide", .inr "columns"]
def lore (x y z : Dat) (v : Int) : Dat := .dic loreK [.int v, x, y, z]
theorem getLo_of {S : List Dat} {n : Nat} {k : Key} {ks : List Key} {ds : List Dat} {d : Dat} (h : S[n]? = some (.dic ks ds)) (e : lkK k ks ds = some d) : getLo n k S = .ok d S := by
  unfold getLo
  rw [h]
  dsimp only
  rw [e]
  rfl
theorem dget_at {o b : Env → M Dat} {ρ : Env} {S : List Dat} {n : Nat} {s : Str} {ks : List Key} {ds : List Dat} {d : Dat} (ho : o ρ S = .ok (.loc n) S) (hb : b ρ S = .ok (.str s) S) (h : S[n]? = some (.dic ks ds)) (e : lkK (.inr s) ks ds = some d) : xDGetLo o b ρ S = .ok d S := by
  unfold xDGetLo
  rw [m_bind, ho]
  show ((b ρ >>= fun z => M.opt (keyD z) >>= fun k => getLo n k) : M Dat) S = _
  rw [m_bind, hb]
  exact getLo_of h e
theorem dput_at {o b a : Env → M Dat} {ρ : Env} {S : List Dat} {n : Nat} {s : Str} {ks : List Key} {ds : List Dat} {x : Dat} (ha : a ρ S = .ok x S) (ho : o ρ S = .ok (.loc n) S) (hb : b ρ S = .ok (.str s) S) (h : S[n]? = some (.dic ks ds)) (l : ks.length < 100000) : sDPutLo o b a ρ S = .ok (.nx ρ) (S.set n (.dic (putKN (.inr s) ks) (putKV (.inr s) x ks ds))) := by
  unfold sDPutLo
  rw [m_bind, ha]
  show ((o ρ >>= fun y => M.opt (dLoc y) >>= fun n => b ρ >>= fun z => M.opt (keyD z) >>= fun k => putLo n k x ρ) : M Flow) S = _
  rw [m_bind, ho]
  show ((b ρ >>= fun z => M.opt (keyD z) >>= fun k => putLo n k x ρ) : M Flow) S = _
  rw [m_bind, hb]
  show putLo n (.inr s) x ρ S = _
  unfold putLo
  rw [h]
  dsimp only
  rw [decide_eq_true l]
theorem late_get {x y z : Dat} {v : Int} : lkK (.inr "late") loreK [.int v, x, y, z] = some (.int v) := by kernel_rfl
theorem late_put {x y z : Dat} {v w : Int} : Dat.dic (putKN (.inr "late") loreK) (putKV (.inr "late") (.int w) loreK [.int v, x, y, z]) = lore x y z w := by kernel_rfl
theorem Pot.same {i k : Nat} {S S' : List Dat} (h : Pot i k S) (e : S'[i]? = S[i]?) : Pot i k S' := by
  obtain ⟨o, m, n, a, r⟩ := h
  exact ⟨o, m, n, e.trans a, r⟩
def late1 (how : Str) : Nat := if isS (.str how) ["narrow first", "wide first"] = true then 1 else 0
/-- so many rows in two events have come -/
def lftOk (v v' : Int) (n : Nat) : Prop := v ≤ v' ∧ (n : Int) + min v 2 ≤ min v' 2
theorem lft0 {v : Int} : lftOk v v 0 := ⟨Int.le_refl _, by omega⟩
theorem lft_add {v v1 v2 : Int} {n m : Nat} (h : lftOk v v1 n) (k : lftOk v1 v2 m) : lftOk v v2 (n + m) := by
  unfold lftOk at *
  omega
abbrev howT : Env → M Bool := bTest (xOp (dInS false) (xVar 7) (xTup (xCons (xC (.str "narrow first")) (xCons (xC (.str "wide first")) xNil))))
abbrev howC : Env → M Flow := sIf howT (sSeq (sDPutLo (xVar 4) (xC (.str "late")) (xOp dAdd (xDGetLo (xVar 4) (xC (.str "late"))) (xC (.int 1))))
    (sAsg (xIf (bTest (xOp dLt (xDGetLo (xVar 4) (xC (.str "late"))) (xC (.int 3)))) (xVar 7) (xC (.str "both"))) (gN 7))) sNx
section
variable {ℓ m : Nat}
theorem how_at {a b c d f g x y z u : Option Dat} {how : Str} {v : Int} {S : List Dat} {p q r : Dat} (hh : how ∈ howsL) (hm : S[m]? = some (lore p q r v)) :
    ∃ (how' : Str) (v' : Int) (S' : List Dat), howC [a, b, c, d, some (.loc m), f, g, some (.str how), x, y, z, u] S = .ok (.nx [a, b, c, d, some (.loc m), f, g, some (.str how'), x, y, z, u]) S' ∧ S'[m]? = some (lore p q r v') ∧ (∀ j, j ≠ m → S'[j]? = S[j]?) ∧ S'.length = S.length ∧ how' ∈ howsL ∧ lftOk v v' (late1 how') ∧ (how = "narrow" → how' = "narrow") := by
  have late : ∀ how : Str, how ∈ howsL → late1 how = 1 → howT [a, b, c, d, some (.loc m), f, g, some (.str how), x, y, z, u] S = .ok true S → how ≠ "narrow" →
      ∃ (how' : Str) (v' : Int) (S' : List Dat), howC [a, b, c, d, some (.loc m), f, g, some (.str how), x, y, z, u] S = .ok (.nx [a, b, c, d, some (.loc m), f, g, some (.str how'), x, y, z, u]) S' ∧ S'[m]? = some (lore p q r v') ∧ (∀ j, j ≠ m → S'[j]? = S[j]?) ∧ S'.length = S.length ∧ how' ∈ howsL ∧ lftOk v v' (late1 how') ∧ (how = "narrow" → how' = "narrow") := fun how hh l1 et nn => by
    have put := dput_at (S := S) (ρ := [a, b, c, d, some (.loc m), f, g, some (.str how), x, y, z, u]) (o := xVar 4) (b := xC (.str "late")) (a := xOp dAdd (xDGetLo (xVar 4) (xC (.str "late"))) (xC (.int 1))) (x := .int (v + 1)) (n := m) (s := "late") (op_at (x := .int v) (y := .int 1) (dget_at rfl rfl hm late_get) rfl rfl) rfl rfl hm (by decide)
    rw [late_put] at put
    have hm2 : (S.set m (lore p q r (v + 1)))[m]? = some (lore p q r (v + 1)) := set_get hm
    have iv : (xOp dLt (xDGetLo (xVar 4) (xC (.str "late"))) (xC (.int 3))) [a, b, c, d, some (.loc m), f, g, some (.str how), x, y, z, u] (S.set m (lore p q r (v + 1))) = .ok (.bl (decide (v + 1 < 3))) (S.set m (lore p q r (v + 1))) := op_at (x := .int (v + 1)) (y := .int 3) (dget_at rfl rfl hm2 late_get) rfl rfl
    have pick : ∀ how' : Str, (xIf (bTest (xOp dLt (xDGetLo (xVar 4) (xC (.str "late"))) (xC (.int 3)))) (xVar 7) (xC (.str "both"))) [a, b, c, d, some (.loc m), f, g, some (.str how), x, y, z, u] (S.set m (lore p q r (v + 1))) = .ok (.str how') (S.set m (lore p q r (v + 1))) →
        howC [a, b, c, d, some (.loc m), f, g, some (.str how), x, y, z, u] S = .ok (.nx [a, b, c, d, some (.loc m), f, g, some (.str how'), x, y, z, u]) (S.set m (lore p q r (v + 1))) := fun how' e => by
      refine (if_t et).trans ?_
      rw [seq_at put]
      exact asg_at e rfl
    have other : ∀ j, j ≠ m → (S.set m (lore p q r (v + 1)))[j]? = S[j]? := fun j n => List.getElem?_set_ne fun z => n z.symm
    by_cases hv : v + 1 < 3
    · refine ⟨how, v + 1, _, pick how ?_, hm2, other, List.length_set, hh, ?_, fun h => absurd h nn⟩
      · unfold xIf
        rw [m_bind, test_at iv, decide_eq_true hv] <;> rfl
      · unfold lftOk
        rw [l1]
        omega
    · refine ⟨"both", v + 1, _, pick "both" ?_, hm2, other, List.length_set, by decide +kernel, ?_, fun h => absurd h nn⟩
      · unfold xIf
        rw [m_bind, test_at iv, decide_eq_false hv] <;> rfl
      · unfold lftOk
        rw [show late1 "both" = 0 by decide +kernel]
        omega
  have plain : ∀ how : Str, how ∈ howsL → late1 how = 0 → howT [a, b, c, d, some (.loc m), f, g, some (.str how), x, y, z, u] S = .ok false S →
      ∃ (how' : Str) (v' : Int) (S' : List Dat), howC [a, b, c, d, some (.loc m), f, g, some (.str how), x, y, z, u] S = .ok (.nx [a, b, c, d, some (.loc m), f, g, some (.str how'), x, y, z, u]) S' ∧ S'[m]? = some (lore p q r v') ∧ (∀ j, j ≠ m → S'[j]? = S[j]?) ∧ S'.length = S.length ∧ how' ∈ howsL ∧ lftOk v v' (late1 how') ∧ (how = "narrow" → how' = "narrow") := fun how hh l0 et => by
    refine ⟨how, v, S, ?_, hm, fun _ _ => rfl, rfl, hh, ?_, id⟩
    · exact (if_f et).trans rfl
    · rw [l0]
      exact lft0
  unfold howsL at hh
  simp only [List.mem_cons, List.not_mem_nil, or_false] at hh
  rcases hh with rfl | rfl | rfl | rfl | rfl
  · exact plain _ (by decide +kernel) (by decide +kernel) rfl
  · exact plain _ (by decide +kernel) (by decide +kernel) rfl
  · exact plain _ (by decide +kernel) (by decide +kernel) rfl
  · exact late _ (by decide +kernel) (by decide +kernel) rfl (by decide +kernel)
  · exact late _ (by decide +kernel) (by decide +kernel) rfl (by decide +kernel)
end
end Zd
namespace Zd
open PySem PySem.Spec PyProof.Rows L2 Zg
/-- all places but two stand as they stood -/
def FrM (i m : Nat) (S S' : List Dat) : Prop := S.length ≤ S'.length ∧ ∀ j, j < S.length → j ≠ i → j ≠ m → S'[j]? = S[j]?
theorem FrM.step {i m : Nat} {S0 S S' : List Dat} (h : FrM i m S0 S) (k : FrS i S S') : FrM i m S0 S' := ⟨Nat.le_trans h.1 k.1, fun j l n n' => (k.2 j (by have := h.1; omega) n).trans (h.2 j l n n')⟩
theorem FrM.chg {i m : Nat} {S0 S S' : List Dat} (h : FrM i m S0 S) (l : S'.length = S.length) (k : ∀ j, j ≠ m → S'[j]? = S[j]?) : FrM i m S0 S' := ⟨by rw [l]; exact h.1, fun j lj n n' => (k j n').trans (h.2 j lj n n')⟩
theorem FrM.setNew {i m n : Nat} {S0 S : List Dat} {d : Dat} (h : FrM i m S0 S) (hn : S0.length ≤ n) : FrM i m S0 (S.set n d) := ⟨by rw [List.length_set]; exact h.1, fun j l ne n' => by
  rw [List.getElem?_set_ne (by omega)]
  exact h.2 j l ne n'⟩
section
variable {S : List Dat}
theorem srcs_at {ρ : Env} {c : Str} (l : 11 < ρ.length) (hc : ρ[6]? = some (some (.str c))) : ∀ {rs : List Dat}, (∀ d, d ∈ rs → ∃ s x y, d = .tup [.str s, x, y]) → ∃ srcs : List Str,
    compD (gN 11) (bTest (xOp dNe (xOp dIxT (xVar 11) (xC (.int 0))) (xVar 6))) (xOp dIxT (xVar 11) (xC (.int 0))) ρ rs S = .ok (srcs.map .str) S ∧ srcs.length ≤ rs.length ∧ ∀ s, s ∈ srcs → (.str s : Dat) ∈ rs.map fstD ∧ s ≠ c
  | [], _ => ⟨[], rfl, Nat.le_refl _, nofun⟩
  | d :: rs, h => by
    obtain ⟨s, x, y, rfl⟩ := h d List.mem_cons_self
    obtain ⟨srcs, e, ll, hs⟩ := srcs_at l hc (rs := rs) fun d hd => h d (List.mem_cons_of_mem _ hd)
    have v11 : xVar 11 (ρ.set 11 (some (.tup [.str s, x, y]))) S = .ok (.tup [.str s, x, y]) S := by
      unfold xVar
      rw [List.getElem?_set_self l] <;> rfl
    have v6 : xVar 6 (ρ.set 11 (some (.tup [.str s, x, y]))) S = .ok (.str c) S := by
      unfold xVar
      rw [List.getElem?_set_ne (by decide), hc] <;> rfl
    have f0 : xOp dIxT (xVar 11) (xC (.int 0)) (ρ.set 11 (some (.tup [.str s, x, y]))) S = .ok (.str s) S := op_at v11 (y := .int 0) rfl rfl
    have t0 : bTest (xOp dNe (xOp dIxT (xVar 11) (xC (.int 0))) (xVar 6)) (ρ.set 11 (some (.tup [.str s, x, y]))) S = .ok (!decide (s = c)) S := test_at (op_at f0 v6 neS_at)
    by_cases q : s = c
    · refine ⟨srcs, ?_, Nat.le_succ_of_le ll, fun z hz => ⟨List.mem_cons_of_mem _ (hs z hz).1, (hs z hz).2⟩⟩
      unfold compD
      show ((bTest _ (ρ.set 11 (some (.tup [.str s, x, y]))) >>= fun b => if b = true then _ else _) : M (List Dat)) S = _
      rw [m_bind, t0, decide_eq_true q]
      exact e
    · refine ⟨s :: srcs, ?_, by rw [List.length_cons, List.length_cons]; omega, fun z hz => ?_⟩
      · unfold compD
        show ((bTest _ (ρ.set 11 (some (.tup [.str s, x, y]))) >>= fun b => if b = true then xOp dIxT (xVar 11) (xC (.int 0)) (ρ.set 11 (some (.tup [.str s, x, y]))) >>= fun x => compD _ _ _ ρ rs >>= fun xs => pure (x :: xs) else compD _ _ _ ρ rs) : M (List Dat)) S = _
        rw [m_bind, t0, decide_eq_false q]
        show ((xOp dIxT (xVar 11) (xC (.int 0)) (ρ.set 11 (some (.tup [.str s, x, y]))) >>= fun x => compD _ _ _ ρ rs >>= fun xs => pure (x :: xs)) : M (List Dat)) S = _
        rw [m_bind, f0]
        show ((compD _ _ _ ρ rs >>= fun xs => pure (.str s :: xs)) : M (List Dat)) S = _
        rw [m_bind, e] <;> rfl
      · rcases List.mem_cons.mp hz with hz | hz
        · subst hz
          exact ⟨List.mem_cons_self, q⟩
        · exact ⟨List.mem_cons_of_mem _ (hs z hz).1, (hs z hz).2⟩
end
section
variable {ℓ m : Nat}
theorem FrM.refl {S : List Dat} : FrM ℓ m S S := ⟨Nat.le_refl _, fun _ _ _ _ => rfl⟩
theorem FrM.trans {S S1 S2 : List Dat} (h : FrM ℓ m S S1) (k : FrM ℓ m S1 S2) : FrM ℓ m S S2 := ⟨Nat.le_trans h.1 k.1, fun j l n n' => (k.2 j (by have := h.1; omega) n n').trans (h.2 j l n n')⟩
theorem FrM.push {S : List Dat} {d : Dat} : FrM ℓ m S (S ++ [d]) := ⟨by rw [List.length_append]; omega, fun j l _ _ => List.getElem?_append_left l⟩
theorem FrM.get {S S' : List Dat} {j : Nat} {d : Dat} (h : FrM ℓ m S S') (e : S[j]? = some d) (n : j ≠ ℓ) (n' : j ≠ m) : S'[j]? = some d := (h.2 j (List.getElem?_eq_some_iff.mp e).1 n n').trans e
theorem FrS.toM {S S' : List Dat} (h : FrS ℓ S S') : FrM ℓ m S S' := FrM.refl.step h
abbrev srcT : Env → M Dat := xLc (iTp (xVar 2)) (gN 11) (bTest (xOp dNe (xOp dIxT (xVar 11) (xC (.int 0))) (xVar 6))) (xOp dIxT (xVar 11) (xC (.int 0))) [11]
abbrev srcU : Env → M Dat := xIf (bAnd (bTest (xOp (dEqD true) (xVar 9) (xLst xNil))) (bTest (xOp dEq (xCall L__law_take (xCons (xVar 0) (xCons (xC (.int 3)) xNil))) (xC (.int 0))))) (xCall L__law_of (xCons (xVar 0) (xCons (xVar 9) xNil))) (xC (.str ""))
abbrev writeB : Env → M Flow := sSeq (sPar 7 8 (xCons (xCall L__law_of (xCons (xVar 0) (xCons (xVar 3) xNil))) (xCons (xCall L__law_of (xCons (xVar 0) (xCons (xLst (xCons (xC (.str "cut")) (xCons (xC (.str "empty")) (xCons (xC (.str "refuse")) xNil)))) xNil))) xNil)))
    (sSeq (sAsg srcT (gN 9))
    (sSeq (sAsg srcU (gN 10))
    (sIf (bTest (xOp dGt (xCall L__law_take (xCons (xVar 0) (xCons (xC (.int 4)) xNil))) (xC (.int 0)))) (sSeq howC
    (sAppLo (xVar 5) (xCons (xTup (xCons (xVar 6) (xCons (xVar 7) (xCons (xVar 8) (xCons (xVar 10) (xCons (xCall L__law_take (xCons (xVar 0) (xCons (xC (.int 100)) xNil))) xNil)))))) xNil))) sNx)))
theorem IsNm.ok {s : Str} (h : IsNm s) : okS s := by
  show (s.cps.all (· < 0x110000)) = true
  exact all_arr fun c m => decide_eq_true (by have := h.ls c m; omega)
theorem ne_nil {srcs : List Str} (l : 1 ≤ srcs.length) (ho : ∀ s, s ∈ srcs → okS s) {S : List Dat} : dEqD true (lstS srcs) (.lst []) S = .ok (.bl true) S := by
  have p : PyS 1 (lstS srcs) := pys_lst fun d hd => by
    obtain ⟨s, hs, rfl⟩ := List.mem_map.mp hd
    exact pys_str (ho s hs)
  obtain ⟨y, e, sh, c⟩ := p.shp (by decide)
  match srcs, l with
  | s :: r, _ =>
    unfold dEqD
    rw [e]
    obtain ⟨ys, e1, e2⟩ := toPy_lst e
    obtain ⟨z, zs, _, _, e3⟩ := toPys_two e1
    subst e2 e3
    show ((M.need (Zd.shp (.list (z :: zs)) && true) >>= fun _ => pure (.bl (true != false))) : M Dat) S = _
    rw [sh] <;> rfl
/-- the source -/
theorem w_src {k : Nat} {S : List Dat} {b c d e f g x y z u : Option Dat} {srcs : List Str} {C : Dat → List Dat → Prop} (l : srcs.length ≤ 3) (ho : ∀ s, s ∈ srcs → okS s) (h : Pot ℓ (k + 2) S) (q : ∀ (src : Str) S', (src ≠ "" → src ∈ srcs) → Pot ℓ k S' → FrE ℓ S S' → C (.str src) S') : wp (srcU [some (.loc ℓ), b, c, d, e, f, g, x, y, some (lstS srcs), z, u]) S C := by
  have z0 : Pot ℓ k S := h.le (by omega)
  have h : Pot ℓ (k + 1 + 1) S := h
  match srcs, l, ho, q with
  | [], _, _, q =>
    refine wp_xif (wp_and (wp_of (a := false) (S' := S) rfl ⟨(fun z => nomatch z), fun _ => ⟨(fun z => nomatch z), fun _ => ?_⟩⟩))
    exact wp_of (a := .str "") (S' := S) rfl (q "" S (fun z => absurd rfl z) z0 .refl)
  | s :: r, l, ho, q =>
    have e : bTest (xOp (dEqD true) (xVar 9) (xLst xNil)) [some (.loc ℓ), b, c, d, e, f, g, x, y, some (lstS (s :: r)), z, u] S = .ok true S := by
      exact test_at (op_at (x := lstS (s :: r)) (y := .lst []) rfl rfl (ne_nil (by simp) ho))
    refine wp_xif (wp_and (wp_of e ⟨fun _ => ?_, (fun z => nomatch z)⟩))
    refine wp_test (wp_op (wp_call (wp_cons (wp_of (a := .loc ℓ) (S' := S) rfl (wp_cons (wp_of (a := .int 3) (S' := S) rfl (wp_nil ?_)))))))
    refine w_takeE h (by decide) (by decide) fun v S1 v0 v1 hp1 f1 => ?_
    refine wp_of (a := .int 0) (S' := S1) rfl (wp_of eqI_at ⟨_, rfl, fun _ => ?_, fun _ => ?_⟩)
    · refine wp_call (wp_cons (wp_of (a := .loc ℓ) (S' := S1) rfl (wp_cons (wp_of (a := lstS (s :: r)) (S' := S1) rfl (wp_nil ?_)))))
      exact w_ofSE (s :: r) hp1 (by simp) (by omega) fun src S2 hs hp2 f2 => q src S2 (fun _ => hs) hp2 (f1.trans f2)
    · exact wp_of (a := .str "") (S' := S1) rfl (q "" S1 (fun z => absurd rfl z) (hp1.le (by omega)) f1)
/-- the state of the loop over the columns -/
structure WrI (first : Bool) (cs : List Str) (rs : List Dat) (hs : List Str) (k n : Nat) (e1 : Option Dat) (p q r : Dat) (v0 : Int) (S0 : List Dat) (ds : List Dat) (ρ : Env) (S : List Dat) : Prop where
  sh : ∃ done rest acc v z6 z7 z8 z9 z10 z11, cs = done ++ rest ∧ ds = rest.map .str ∧ ρ = [some (.loc ℓ), e1, some (.tup rs), some (lstS hs), some (.loc m), some (.loc n), z6, z7, z8, z9, z10, z11] ∧ Pot ℓ (k + 6 * rest.length) S ∧ S[n]? = some (.lst acc) ∧ S[m]? = some (lore p q r v) ∧
    Rows (WrRow first (firsts rs)) done acc ∧ lftOk v0 v (acc.filter lateR).length
  fr : FrM ℓ m S0 S
theorem write_step {first : Bool} {cs : List Str} {rs : List Dat} {hs : List Str} {k n : Nat} {e1 : Option Dat} {p q r : Dat} {v0 : Int} {S0 : List Dat} {ss : List Str} (lc : cs.length ≤ 3) (lr : rs.length ≤ 3) (hr : ∀ d, d ∈ rs → ∃ s x y, d = .tup [.str s, x, y]) (ef : rs.map fstD = ss.map .str) (ho : ∀ s, s ∈ ss → okS s)
    (h0 : 0 < hs.length) (h1 : hs.length ≤ 1000) (hh : ∀ x, x ∈ hs → x ∈ howsL ∧ (first = true → x = "narrow"))
    (hn : S0.length ≤ n) (hl : n ≠ ℓ) (hm : n ≠ m) (hlm : m ≠ ℓ)
    {d : Dat} {ds : List Dat} {ρ : Env} {S : List Dat} (I : WrI (ℓ := ℓ) (m := m) first cs rs hs k n e1 p q r v0 S0 (d :: ds) ρ S) :
    ∃ ρ1, gN 6 ρ d = some ρ1 ∧ wp (writeB ρ1) S fun f S' => match f with | .nx ρ2 => WrI (ℓ := ℓ) (m := m) first cs rs hs k n e1 p q r v0 S0 ds ρ2 S' | _ => False := by
  obtain ⟨⟨done, rest, acc, v, z6, z7, z8, z9, z10, z11, e, ed, rfl, hp, ha, hv, R, L⟩, hf⟩ := I
  match rest, ed with
  | c :: rest, ed =>
    injection ed with ed1 ed2
    subst ed1
    subst ed2
    have e' : cs = (done ++ [c]) ++ rest := by rw [e, List.append_assoc] <;> rfl
    have lR := R.len
    have ld : done.length ≤ 3 := by
      have := congrArg List.length e
      rw [List.length_append] at this
      omega
    have hp : Pot ℓ (k + 6 * rest.length + 1 + 1 + 1 + 1 + 1 + 1) S := hp.le (by rw [List.length_cons]; omega)
    refine ⟨_, rfl, wp_seq (wp_par (wp_cons (wp_call (wp_cons (wp_of (a := .loc ℓ) (S' := S) rfl (wp_cons (wp_of (a := lstS hs) (S' := S) rfl (wp_nil ?_))))))))⟩
    refine w_ofSE hs hp h0 h1 fun how S1 hhow hp1 f1 => ?_
    refine wp_cons (wp_call (wp_cons (wp_of (a := .loc ℓ) (S' := S1) rfl (wp_cons (wp_of (a := lstS rulesL) (S' := S1) rfl (wp_nil ?_))))))
    refine w_ofSE rulesL hp1 (by decide) (by decide) fun rule S2 hrule hp2 f2 => ?_
    refine wp_nil ⟨_, _, rfl, ?_⟩
    dsimp only
    -- the sources
    obtain ⟨srcs, es, ls, hs2⟩ := srcs_at (S := S2) (ρ := [some (.loc ℓ), e1, some (.tup rs), some (lstS hs), some (.loc m), some (.loc n), some (.str c), some (.str how), some (.str rule), z9, z10, none]) (c := c) (show 11 < 12 by decide) rfl hr
    have esl : srcT [some (.loc ℓ), e1, some (.tup rs), some (lstS hs), some (.loc m), some (.loc n), some (.str c), some (.str how), some (.str rule), z9, z10, z11] S2 = .ok (lstS srcs) S2 := by
      unfold srcT xLc
      rw [m_bind, show iTp (xVar 2) [some (.loc ℓ), e1, some (.tup rs), some (lstS hs), some (.loc m), some (.loc n), some (.str c), some (.str how), some (.str rule), z9, z10, z11] S2 = .ok rs S2 from rfl]
      show ((M.need (decide (rs.length ≤ 100000)) >>= fun _ => compD _ _ _ [some (.loc ℓ), e1, some (.tup rs), some (lstS hs), some (.loc m), some (.loc n), some (.str c), some (.str how), some (.str rule), z9, z10, none] rs >>= fun es => pure (.lst es)) : M Dat) S2 = _
      rw [decide_eq_true (show rs.length ≤ 100000 by omega)]
      show ((compD _ _ _ [some (.loc ℓ), e1, some (.tup rs), some (lstS hs), some (.loc m), some (.loc n), some (.str c), some (.str how), some (.str rule), z9, z10, none] rs >>= fun es => pure (.lst es)) : M Dat) S2 = _
      rw [m_bind, es] <;> rfl
    refine wp_seq (wp_asg (wp_of esl ?_))
    refine ⟨[some (.loc ℓ), e1, some (.tup rs), some (lstS hs), some (.loc m), some (.loc n), some (.str c), some (.str how), some (.str rule), some (lstS srcs), z10, z11], rfl, ?_⟩
    dsimp only
    have hss : ∀ s, s ∈ srcs → s ∈ ss ∧ s ≠ c := fun s hs' => by
      obtain ⟨k1, k2⟩ := hs2 s hs'
      rw [ef] at k1
      obtain ⟨s', ms, es'⟩ := List.mem_map.mp k1
      injection es' with es'
      subst es'
      exact ⟨ms, k2⟩
    refine wp_seq (wp_asg (w_src (by omega) (fun s hs' => ho s (hss s hs').1) hp2 fun src S3 hsrc hp3 f3 => ?_))
    refine ⟨[some (.loc ℓ), e1, some (.tup rs), some (lstS hs), some (.loc m), some (.loc n), some (.str c), some (.str how), some (.str rule), some (lstS srcs), some (.str src), z11], rfl, ?_⟩
    dsimp only
    refine wp_if (wp_test (wp_op (wp_call (wp_cons (wp_of (a := .loc ℓ) (S' := S3) rfl (wp_cons (wp_of (a := .int 4) (S' := S3) rfl (wp_nil ?_))))))))
    refine w_takeE hp3 (by decide) (by decide) fun t S4 t0 t1 hp4 f4 => ?_
    have ha4 := f4.1.get (f3.1.get (f2.1.get (f1.1.get ha hl) hl) hl) hl
    have hv4 := f4.1.get (f3.1.get (f2.1.get (f1.1.get hv hlm) hlm) hlm) hlm
    have hf4 := (((hf.step f1.1).step f2.1).step f3.1).step f4.1
    refine wp_of (a := .int 0) (S' := S4) rfl (wp_of (a := .bl (decide (0 < t))) (S' := S4) rfl ⟨_, rfl, fun _ => ?_, fun _ => ?_⟩)
    rotate_left
    · refine wp_of (a := .nx [some (.loc ℓ), e1, some (.tup rs), some (lstS hs), some (.loc m), some (.loc n), some (.str c), some (.str how), some (.str rule), some (lstS srcs), some (.str src), z11]) (S' := S4) rfl ?_
      exact ⟨⟨done ++ [c], rest, acc, v, _, _, _, _, _, _, e', rfl, rfl, hp4.le (by omega), ha4, hv4, R.skip c, L⟩, hf4⟩
    -- how
    obtain ⟨how', v', S5, eh, hv5, same, len5, hh', lft, keep⟩ := how_at (m := m) (a := some (.loc ℓ)) (b := e1) (c := some (.tup rs)) (d := some (lstS hs)) (f := some (.loc n)) (g := some (.str c)) (x := some (.str rule)) (y := some (lstS srcs)) (z := some (.str src)) (u := z11) (hh how hhow).1 hv4
    refine wp_seq (wp_of eh ?_)
    dsimp only
    have hp5 : Pot ℓ (k + 6 * rest.length + 1) S5 := (hp4.le (by omega)).same (same ℓ hlm.symm)
    have ha5 : S5[n]? = some (.lst acc) := (same n hm).trans ha4
    have hf5 := hf4.chg len5 same
    refine wp_app (n := n) (xs := acc) rfl ha5 (wp_cons (wp_tup (wp_cons (wp_of (a := .str c) (S' := S5) rfl (wp_cons (wp_of (a := .str how') (S' := S5) rfl (wp_cons (wp_of (a := .str rule) (S' := S5) rfl (wp_cons (wp_of (a := .str src) (S' := S5) rfl (wp_cons (wp_call (wp_cons (wp_of (a := .loc ℓ) (S' := S5) rfl (wp_cons (wp_of (a := .int 100) (S' := S5) rfl (wp_nil ?_)))))))))))))))))
    refine w_takeE hp5 (by decide) (by decide) fun pace S6 p0 p1 hp6 f6 => ?_
    have g6 := f6.1.get ha5 hl
    refine wp_nil ⟨(by decide : 5 ≤ 1000), wp_nil ⟨_, acc, rfl, g6, by omega, ?_⟩⟩
    have lastR : WrRow first (firsts rs) c (.tup [.str c, .str how', .str rule, .str src, .int pace]) := by
      refine ⟨how', rule, src, pace, hh', fun z => keep ((hh how hhow).2 z), hrule, ⟨p0, p1⟩, fun ns => ?_, rfl⟩
      rw [firsts_of ef]
      exact hss src (hsrc ns)
    refine ⟨⟨done ++ [c], rest, acc ++ [.tup [.str c, .str how', .str rule, .str src, .int pace]], v', _, _, _, _, _, _, e', rfl, rfl, (hp6.le (by omega)).other hl, set_get g6, ?_, R.put lastR rfl, ?_⟩, ?_⟩
    · rw [List.getElem?_set_ne hm]
      exact f6.1.get hv5 hlm
    · rw [List.filter_append, List.length_append]
      have e1 : (List.filter lateR [.tup [.str c, .str how', .str rule, .str src, .int pace]]).length = late1 how' := by
        unfold late1
        rw [List.filter_cons]
        show (if isS (.str how') ["narrow first", "wide first"] = true then _ else _ : List Dat).length = _
        by_cases q : isS (.str how') ["narrow first", "wide first"] = true
        · rw [if_pos q, if_pos q] <;> rfl
        · rw [if_neg q, if_neg q] <;> rfl
      rw [e1]
      exact lft_add L lft
    · exact (hf5.step f6.1).setNew hn
theorem w_writes {first : Bool} {cs : List Str} {rs : List Dat} {hs : List Str} {k : Nat} {S : List Dat} {p o r : Dat} {v : Int} {C : Dat → List Dat → Prop} (hc : NmS cs) (hR : Rows (RdRow first) cs rs) (h0 : 0 < hs.length) (h1 : hs.length ≤ 1000) (hh : ∀ x, x ∈ hs → x ∈ howsL ∧ (first = true → x = "narrow")) (h : Pot ℓ (k + 18) S) (hm : S[m]? = some (lore p o r v)) (hlm : m ≠ ℓ)
    (q : ∀ ws v' S', Rows (WrRow first (firsts rs)) cs ws → lftOk v v' (ws.filter lateR).length → S'[m]? = some (lore p o r v') → Pot ℓ k S' → FrM ℓ m S S' → C (.tup ws) S') :
    wp (L__law_writes [.loc ℓ, tupS cs, .tup rs, lstS hs, .loc m]) S C := by
  have lc := hc.l3
  have lm := (List.getElem?_eq_some_iff.mp hm).1
  have lr := hR.len
  obtain ⟨ss, sub, ef⟩ := hR.fs
  refine wp_run (wp_seq (wp_asg (wp_of (a := .loc S.length) (S' := S ++ [.lst []]) rfl ?_)))
  refine ⟨_, rfl, ?_⟩
  dsimp only
  refine wp_seq (wp_bind (wp_of (a := cs.map .str) (S' := S ++ [.lst []]) rfl ?_))
  have g0 : (S ++ [Dat.lst []])[S.length]? = some (.lst []) := by rw [List.getElem?_append_right (Nat.le_refl _), Nat.sub_self] <;> rfl
  have gm : (S ++ [Dat.lst []])[m]? = some (lore p o r v) := by rw [List.getElem?_append_left lm]; exact hm
  refine wp_for (I := WrI (ℓ := ℓ) (m := m) first cs rs hs k S.length (some (tupS cs)) p o r v S) (fun d ds ρ S1 I => ?_) (fun ρ S1 I => ?_) _ _ _ ⟨⟨[], cs, [], v, _, _, _, _, _, _, rfl, rfl, rfl, h.push.le (by omega), g0, gm, .nil, lft0⟩, .push⟩
  · obtain ⟨ρ1, e1, w⟩ := write_step lc (by omega) (fun d hd => by
      obtain ⟨c, _, side, deeds, _, _, _, rfl⟩ := hR.at_ d hd
      exact ⟨_, _, _, rfl⟩) ef (fun s hs => (hc.n s (sub.mem hs)).ok) h0 h1 hh (Nat.le_refl _) (h.newGet (Nat.le_refl _)) (by omega) hlm I
    refine ⟨ρ1, e1, wp_mono w fun f S2 z => ?_⟩
    cases f with
    | nx ρ2 => exact z
    | ct ρ2 => exact z.elim
    | bk ρ2 => exact z.elim
    | rt d => exact z.elim
  · obtain ⟨⟨done, rest, acc, v', z6, z7, z8, z9, z10, z11, e, ed, rfl, hp, ha, hv, R, L⟩, hf⟩ := I
    match rest, ed with
    | [], _ =>
      rw [List.append_nil] at e
      subst e
      refine wp_ret (wp_of (a := .tup acc) (S' := S1) ?_ (wp_pure (q acc v' S1 R L hv (hp.le (by omega)) hf)))
      show (dTupleLo [.loc S.length] : M Dat) S1 = _
      unfold dTupleLo
      dsimp only
      rw [ha]
end
end Zd
namespace Zd
open PySem PySem.Spec PyProof.Rows L2 Zg
theorem st_strs {k : Nat} {ss : List Str} : St (k + 2) (tupS ss) := st_tup fun d h => by
  obtain ⟨s, _, rfl⟩ := List.mem_map.mp h
  exact st_str
theorem RdRow.st {f : Bool} {c : Str} {d : Dat} (h : RdRow f c d) : St 3 d := by
  obtain ⟨side, deeds, _, _, _, rfl⟩ := h
  exact st_tup (st_all3 st_str st_str st_strs)
theorem WrRow.st {f : Bool} {srcs : List Str} {c : Str} {d : Dat} (h : WrRow f srcs c d) : St 3 d := by
  obtain ⟨how, rule, src, pace, _, _, _, _, _, rfl⟩ := h
  refine st_tup fun d h => ?_
  rcases List.mem_cons.mp h with h | h
  · rw [h]; exact st_str
  · exact st_all4 st_str st_str st_str st_int d h
theorem EdnD.st {f : Bool} {cs : List Str} {d : Dat} (h : EdnD f cs d) : St 5 d := by
  obtain ⟨sight, rs, ws, rfl, E⟩ := h
  exact st_tup (st_all3 st_str (st_tup fun d h => (E.r.at_ d h).elim fun c k => k.2.st) (st_tup fun d h => (E.w.at_ d h).elim fun c k => k.2.st))
theorem PgmD.st {cs : List Str} {d : Dat} (h : PgmD cs d) : St 7 d := by
  obtain ⟨name, eds, rfl, E⟩ := h
  exact st_tup (st_all2 st_str (st_tup fun d h => (E.all d h).elim fun c k => k.st))
theorem Pgms.st {cs : List Str} {ps : List Dat} (h : Pgms cs ps) : St 8 (.tup ps) := st_tup fun d hd => (h.all d hd).st
def kindO (q : Ki) : Dat := .obj "Kind" ["low", "high", "size"] [.int q.1, .int q.2, .int (q.2 - q.1 + 1)]
def worldO (n w : Ki) (cs : List Str) (ps : List Dat) : Dat := .obj "World" ["narrow", "wide", "columns", "programs"] [kindO n, kindO w, tupS cs, .tup ps]
theorem st_kind {q : Ki} : St 2 (kindO q) := st_obj (st_all3 st_int st_int st_int)
theorem st_kP {q : Ki} {k : Nat} : St (k + 2) (kP q) := st_tup (st_all2 st_int st_int)
theorem st_wargs {n w : Ki} {cs : List Str} {ps : List Dat} (h : St 8 (.tup ps)) : ∀ d, d ∈ [kindO n, kindO w, tupS cs, .tup ps] → St 8 d := st_all4 (st_kind.up (by decide)) (st_kind.up (by decide)) ((st_strs (k := 0)).up (by decide)) h
theorem st_world {n w : Ki} {cs : List Str} {ps : List Dat} (h : St 8 (.tup ps)) : St 9 (worldO n w cs ps) := st_obj (st_wargs h)
section
variable {S : List Dat}
theorem run_nx {N : Nat} {b : Env → M Flow} {ds : List Dat} {ρ' : Env} {S' : List Dat} (h : b (startE N ds) S = .ok (.nx ρ') S') : runD N b ds S = .ok .non S' := by
  unfold runD
  rw [m_bind, h] <;> rfl
theorem kind_init {q : Ki} (a : q.1 ≤ 0) (b : 0 ≤ q.2) : L_Kind___init__ [.loc 0, .int q.1, .int q.2] [.obj "Kind" [] []] = .ok .non [kindO q] := by
  refine run_nx (ρ' := [some (.loc 0), some (.int q.1), some (.int q.2)]) ?_
  show sSeq _ _ [some (.loc 0), some (.int q.1), some (.int q.2)] [.obj "Kind" [] []] = _
  have c := ch2 (S := [.obj "Kind" [] []]) (ρ := [some (.loc 0), some (.int q.1), some (.int q.2)]) (a := xVar 1) (b := xC (.int 0)) (c := xVar 2) (i := q.1) (j := 0) (k := q.2) rfl rfl rfl
  rw [decide_eq_true a, decide_eq_true b] at c
  rw [seq_at (S' := [.obj "Kind" [] []]) ((if_f (S' := [.obj "Kind" [] []]) ((or_f (S' := [.obj "Kind" [] []]) rfl).trans ((or_f (S' := [.obj "Kind" [] []]) rfl).trans (not_at (test_at c))))).trans rfl)]
  rfl
theorem kind_at {q : Ki} (a : q.1 ≤ 0) (b : 0 ≤ q.2) : callF (mkNew "Kind" L_Kind___init__) [.int q.1, .int q.2] S = .ok (kindO q) S := by
  have e : mkNew "Kind" L_Kind___init__ [.int q.1, .int q.2] [] = .ok (.loc 0) [kindO q] := by
    unfold mkNew
    show ((calm (L_Kind___init__ [.loc 0, .int q.1, .int q.2]) >>= fun r => M.need (isNon r) >>= fun _ => pure (.loc 0)) : M Dat) [.obj "Kind" [] []] = _
    rw [m_bind, calm_at (kind_init a b)] <;> rfl
  refine callF_ok rfl e (e := kindO q) ?_ S
  show (match ([kindO q] : List Dat)[0]? with | some t => frz [kindO q] 39 t | none => none) = _
  exact st_kind.2 _ _ (by decide)
theorem kle {p q : Ki} : L_Kind___le__ [kindO p, kindO q] S = .ok (.bl (decide (q.1 ≤ p.1) && decide (p.2 ≤ q.2))) S := by
  refine run_at ?_
  rw [seq_at (ρ' := [some (kindO p), some (kindO q)]) (S' := S) rfl]
  exact ret_at (and_b rfl rfl)
theorem keq {p q : Ki} : L_Kind___eq__ [kindO p, kindO q] S = .ok (.bl (decide (p.1 = q.1) && decide (p.2 = q.2))) S := by
  refine run_at (ret_at ?_)
  have e1 : xOp dEq (xUn (dFldI "Kind" "low") (xVar 0)) (xUn (dFldI "Kind" "low") (xVar 1)) [some (kindO p), some (kindO q)] S = .ok (.bl (decide (p.1 = q.1))) S := op_at (x := .int p.1) (y := .int q.1) rfl rfl eqI_at
  have e2 : xOp dEq (xUn (dFldI "Kind" "high") (xVar 0)) (xUn (dFldI "Kind" "high") (xVar 1)) [some (kindO p), some (kindO q)] S = .ok (.bl (decide (p.2 = q.2))) S := op_at (x := .int p.2) (y := .int q.2) rfl rfl eqI_at
  exact and_b (x := true) rfl (and_b e1 e2)
theorem own_at {p q : Ki} {G : List Dat → M Dat} {b : Bool} (h : G [kindO p, kindO q] S = .ok (.bl b) S) : dOwn2 "Kind" G (kindO p) (kindO q) S = .ok (.bl b) S := by
  unfold dOwn2
  show calm (G [kindO p, kindO q]) S = _
  exact calm_at h
theorem klt {p q : Ki} : L_Kind___lt__ [kindO p, kindO q] S = .ok (.bl ((decide (q.1 ≤ p.1) && decide (p.2 ≤ q.2)) && !(decide (p.1 = q.1) && decide (p.2 = q.2)))) S := by
  refine run_at ?_
  rw [seq_at (ρ' := [some (kindO p), some (kindO q)]) (S' := S) rfl]
  refine ret_at (and_b (op_at (x := kindO p) (y := kindO q) rfl rfl (own_at kle)) ?_)
  have e : xOp (dOwn2 "Kind" L_Kind___eq__) (xVar 0) (xVar 1) [some (kindO p), some (kindO q)] S = .ok (.bl (decide (p.1 = q.1) && decide (p.2 = q.2))) S := op_at (x := kindO p) (y := kindO q) rfl rfl (own_at keq)
  unfold xNot
  rw [m_bind, test_at e] <;> rfl
theorem kinds_ok {n w : Ki} (h : Kd n w) : L__are_kinds [kindO n, kindO w] S = .ok (.bl true) S := by
  refine run_at ?_
  rw [seq_at (ρ' := [some (kindO n), some (kindO w)]) (S' := S) rfl]
  have e1 : xOp (dOwn2 "Kind" L_Kind___lt__) (xVar 0) (xVar 1) [some (kindO n), some (kindO w)] S = .ok (.bl true) S := by
    refine op_at (x := kindO n) (y := kindO w) rfl rfl (own_at ?_)
    rw [klt, decide_eq_true h.d, decide_eq_true (show n.2 ≤ w.2 by have := h.e; omega), decide_eq_false (show ¬ n.2 = w.2 by have := h.e; omega), Bool.and_false] <;> rfl
  have e2 : xOp dGe (xUn (dFldI "Kind" "size") (xVar 0)) (xC (.int 16)) [some (kindO n), some (kindO w)] S = .ok (.bl true) S := by
    refine op_at (x := .int (n.2 - n.1 + 1)) (y := .int 16) rfl rfl ?_
    show Out.ok (Dat.bl (decide ((16 : Int) ≤ n.2 - n.1 + 1))) S = _
    rw [decide_eq_true (by have := h.c; omega)]
  exact ret_at (and_b e1 e2)
theorem world_init {n w : Ki} {cs : List Str} {ps : List Dat} (hk : Kd n w) (hc : NmS cs) (h : Pgms cs ps) : L_World___init__ [.loc 0, kindO n, kindO w, tupS cs, .tup ps] [.obj "World" [] []] = .ok .non [worldO n w cs ps] := by
  refine run_nx (ρ' := [some (.loc 0), some (kindO n), some (kindO w), some (tupS cs), some (.tup ps), some (.bl true)]) ?_
  show sSeq _ _ [some (.loc 0), some (kindO n), some (kindO w), some (tupS cs), some (.tup ps), none] [.obj "World" [] []] = _
  generalize hS : ([.obj "World" [] []] : List Dat) = S0
  have c1 : L__are_kinds [kindO n, kindO w] S0 = .ok (.bl true) S0 := kinds_ok hk
  have c2 : L__are_columns [tupS cs] S0 = .ok (.bl true) S0 := cols_ok hc
  have c3 : L__are_programs [tupS cs, .tup ps] S0 = .ok (.bl true) S0 := programs_ok hc h
  rw [seq_at (S' := S0) (asg_at (d := .bl true) ((and_t (S' := S0) (call_at (S1 := S0) (ds := [kindO n, kindO w]) rfl c1)).trans ((and_t (S' := S0) (call_at (S1 := S0) (ds := [tupS cs]) rfl c2)).trans (call_at (S1 := S0) (ds := [tupS cs, .tup ps]) rfl c3))) (ρ' := [some (.loc 0), some (kindO n), some (kindO w), some (tupS cs), some (.tup ps), some (.bl true)]) rfl)]
  subst hS
  rfl
theorem world_at {n w : Ki} {cs : List Str} {ps : List Dat} (hk : Kd n w) (hc : NmS cs) (h : Pgms cs ps) : callF (mkNew "World" L_World___init__) [kindO n, kindO w, tupS cs, .tup ps] S = .ok (worldO n w cs ps) S := by
  have st := st_wargs (n := n) (w := w) (cs := cs) h.st
  have nl : noLocs [kindO n, kindO w, tupS cs, .tup ps] = true := noLocs_of fun d hd => (st d hd).1
  have e : mkNew "World" L_World___init__ [kindO n, kindO w, tupS cs, .tup ps] [] = .ok (.loc 0) [worldO n w cs ps] := by
    unfold mkNew
    show ((calm (L_World___init__ [.loc 0, kindO n, kindO w, tupS cs, .tup ps]) >>= fun r => M.need (isNon r) >>= fun _ => pure (.loc 0)) : M Dat) [.obj "World" [] []] = _
    rw [m_bind, calm_at (world_init hk hc h)] <;> rfl
  refine callF_ok nl e (e := worldO n w cs ps) ?_ S
  show (match ([worldO n w cs ps] : List Dat)[0]? with | some t => frz [worldO n w cs ps] 39 t | none => none) = _
  exact (st_world h.st).2 _ _ (by decide)
/-- the four parts of a world -/
def parts (n w : Ki) (cs : List Str) (ps : List Dat) : Dat := .tup [kP n, kP w, tupS cs, .tup ps]
theorem made_ok {n w : Ki} {cs : List Str} {ps : List Dat} (hk : Kd n w) (hc : NmS cs) (h : Pgms cs ps) : L__law_made [parts n w cs ps] S = .ok (worldO n w cs ps) S := by
  refine run_at ?_
  rw [seq_at (ρ' := [some (parts n w cs ps), some (kP n), some (kP w), some (tupS cs), some (.tup ps)]) (S' := S) rfl]
  have k1 : callF (mkNew "Kind" L_Kind___init__) [.int n.1, .int n.2] S = .ok (kindO n) S := kind_at hk.a hk.b
  have k2 : callF (mkNew "Kind" L_Kind___init__) [.int w.1, .int w.2] S = .ok (kindO w) S := kind_at (by have := hk.a; have := hk.d; omega) (by have := hk.b; have := hk.e; omega)
  refine ret_at (call_at (S1 := S) (ds := [kindO n, kindO w, tupS cs, .tup ps]) ?_ (world_at hk hc h))
  refine cons_at (S1 := S) (call_at (S1 := S) (ds := [.int n.1, .int n.2]) rfl k1) (cons_at (S1 := S) (call_at (S1 := S) (ds := [.int w.1, .int w.2]) rfl k2) rfl)
end
end Zd
namespace Zd
open PySem PySem.Spec PyProof.Rows L2 Zg
theorem cols_get {x y z : Dat} {v : Int} : lkK (.inr "columns") loreK [.int v, x, y, z] = some z := by kernel_rfl
def howsA : List Str := ["narrow", "wide", "wide", "both", "both", "narrow first", "wide first"]
theorem howsA_in : ∀ x, x ∈ howsA → x ∈ howsL := by decide +kernel
abbrev howsT : Env → M Dat := xIf (bTest (xOp dGt (xVar 2) (xC (.int 0)))) (xLst (xCons (xC (.str "narrow")) (xCons (xC (.str "wide")) (xCons (xC (.str "wide")) (xCons (xC (.str "both")) (xCons (xC (.str "both")) (xCons (xC (.str "narrow first")) (xCons (xC (.str "wide first")) xNil)))))))) (xLst (xCons (xC (.str "narrow")) xNil))
abbrev sidesT : Env → M Dat := xIf (bTest (xOp dGt (xVar 2) (xC (.int 0)))) (xLst (xCons (xC (.str "narrow")) (xCons (xC (.str "wide")) (xCons (xC (.str "either")) xNil)))) (xLst (xCons (xC (.str "narrow")) (xCons (xC (.str "narrow")) (xCons (xC (.str "either")) xNil))))
theorem hows_at {S : List Dat} {i : Nat} {a b c d e f : Option Dat} : ∃ hs : List Str, howsT [a, b, some (.int (i : Int)), c, d, e, f] S = .ok (lstS hs) S ∧ 0 < hs.length ∧ hs.length ≤ 1000 ∧ ∀ x, x ∈ hs → x ∈ howsL ∧ (decide (i = 0) = true → x = "narrow") := by
  have t : bTest (xOp dGt (xVar 2) (xC (.int 0))) [a, b, some (.int (i : Int)), c, d, e, f] S = .ok (decide ((0 : Int) < (i : Int))) S := test_at (op_at (x := .int (i : Int)) (y := .int 0) rfl rfl rfl)
  by_cases z : i = 0
  · subst z
    refine ⟨["narrow"], ?_, by decide, by decide, fun x hx => ?_⟩
    · exact (xif_b t).trans rfl
    · rw [List.mem_singleton.mp hx]
      exact ⟨by decide +kernel, fun _ => rfl⟩
  · refine ⟨howsA, ?_, by decide, by decide, fun x hx => ⟨howsA_in x hx, fun y => absurd (of_decide_eq_true y) z⟩⟩
    rw [decide_eq_true (show (0 : Int) < (i : Int) by omega)] at t
    exact (xif_b t).trans rfl
theorem sides_at {S : List Dat} {i : Nat} {a b c d e f : Option Dat} : ∃ hs : List Str, sidesT [a, b, some (.int (i : Int)), c, d, e, f] S = .ok (lstS hs) S ∧ 0 < hs.length ∧ hs.length ≤ 1000 ∧ ∀ x, x ∈ hs → x ∈ sidesL ∧ (decide (i = 0) = true → x ∈ (["narrow", "either"] : List Str)) := by
  have t : bTest (xOp dGt (xVar 2) (xC (.int 0))) [a, b, some (.int (i : Int)), c, d, e, f] S = .ok (decide ((0 : Int) < (i : Int))) S := test_at (op_at (x := .int (i : Int)) (y := .int 0) rfl rfl rfl)
  by_cases z : i = 0
  · subst z
    have k : ∀ x, x ∈ (["narrow", "narrow", "either"] : List Str) → x ∈ sidesL ∧ x ∈ (["narrow", "either"] : List Str) := by decide +kernel
    refine ⟨["narrow", "narrow", "either"], ?_, by decide, by decide, fun x hx => ⟨(k x hx).1, fun _ => (k x hx).2⟩⟩
    exact (xif_b t).trans rfl
  · have k : ∀ x, x ∈ (["narrow", "wide", "either"] : List Str) → x ∈ sidesL := by decide +kernel
    refine ⟨["narrow", "wide", "either"], ?_, by decide, by decide, fun x hx => ⟨k x hx, fun y => absurd (of_decide_eq_true y) z⟩⟩
    rw [decide_eq_true (show (0 : Int) < (i : Int) by omega)] at t
    exact (xif_b t).trans rfl
section
variable {ℓ m : Nat}
theorem w_edition {i : Nat} {cs : List Str} {k : Nat} {S : List Dat} {p o : Dat} {v : Int} {C : Dat → List Dat → Prop} (hc : NmS cs) (h : Pot ℓ (k + 28) S) (hm : S[m]? = some (lore p o (tupS cs) v)) (hlm : m ≠ ℓ)
    (q : ∀ d v' S', EdnD (decide (i = 0)) cs d → lftOk v v' (cntE d) → S'[m]? = some (lore p o (tupS cs) v') → Pot ℓ k S' → FrM ℓ m S S' → C d S') : wp (L__law_edition [.loc ℓ, .loc m, .int (i : Int)]) S C := by
  obtain ⟨hs, eh, h0, h1, hh⟩ := hows_at (S := S) (i := i) (a := some (.loc ℓ)) (b := some (.loc m)) (c := none) (d := none) (e := none) (f := none)
  obtain ⟨ss, es, s0, s1, hss⟩ := sides_at (S := S) (i := i) (a := some (.loc ℓ)) (b := some (.loc m)) (c := some (lstS hs)) (d := none) (e := none) (f := none)
  refine wp_run (wp_seqA (asg_at eh rfl) ?_)
  refine wp_seqA (asg_at es rfl) ?_
  refine wp_seq (wp_asg (wp_xif (wp_test (wp_op (wp_call (wp_cons (wp_of (a := .loc ℓ) (S' := S) rfl (wp_cons (wp_of (a := .int 2) (S' := S) rfl (wp_nil ?_))))))))))
  have h : Pot ℓ (k + 27 + 1) S := h
  refine w_takeE h (by decide) (by decide) fun r S1 r0 r1 hp1 f1 => ?_
  refine wp_of (a := .int 1) (S' := S1) rfl (wp_of eqI_at ⟨_, rfl, ?_⟩)
  have hm1 := f1.1.get hm hlm
  have main : ∀ sight : Str, sight ∈ (["narrow", "wide"] : List Str) → wp (sSeq (sAsg (xCall L__law_reads (xCons (xVar 0) (xCons (xDGetLo (xVar 1) (xC (.str "columns"))) (xCons (xVar 4) xNil)))) (gN 6))
      (sRet (xTup (xCons (xVar 5) (xCons (xVar 6) (xCons (xCall L__law_writes (xCons (xVar 0) (xCons (xDGetLo (xVar 1) (xC (.str "columns"))) (xCons (xVar 6) (xCons (xVar 3) (xCons (xVar 1) xNil)))))) xNil)))))
      [some (.loc ℓ), some (.loc m), some (.int (i : Int)), some (lstS hs), some (lstS ss), some (.str sight), none]) S1 fun f S' => wp (outF f) S' C := fun sight hsight => by
    have hp1 : Pot ℓ (k + 18 + 9) S1 := hp1
    refine wp_seq (wp_asg (wp_call (wp_cons (wp_of (a := .loc ℓ) (S' := S1) rfl (wp_cons (wp_of (dget_at rfl rfl hm1 cols_get) (wp_cons (wp_of (a := lstS ss) (S' := S1) rfl (wp_nil ?_)))))))))
    refine w_reads hc.l3 hp1 s0 s1 hss fun rs S2 hR hp2 f2 => ?_
    refine ⟨[some (.loc ℓ), some (.loc m), some (.int (i : Int)), some (lstS hs), some (lstS ss), some (.str sight), some (.tup rs)], rfl, ?_⟩
    dsimp only
    have hm2 := f2.get hm1 hlm
    refine wp_ret (wp_tup (wp_cons (wp_of (a := .str sight) (S' := S2) rfl (wp_cons (wp_of (a := .tup rs) (S' := S2) rfl (wp_cons (wp_call (wp_cons (wp_of (a := .loc ℓ) (S' := S2) rfl (wp_cons (wp_of (dget_at rfl rfl hm2 cols_get) (wp_cons (wp_of (a := .tup rs) (S' := S2) rfl (wp_cons (wp_of (a := lstS hs) (S' := S2) rfl (wp_cons (wp_of (a := .loc m) (S' := S2) rfl (wp_nil ?_))))))))))))))))))
    refine w_writes hc hR h0 h1 hh hp2 hm2 hlm fun ws v' S3 hW L3 hv3 hp3 f3 => ?_
    refine wp_nil ⟨(by decide : 3 ≤ 1000), wp_pure (q _ v' S3 ⟨sight, rs, ws, rfl, hsight, hR, hW⟩ L3 hv3 hp3 ((f1.1.toM.step f2).trans f3))⟩
  refine ⟨fun _ => wp_of (a := .str "wide") (S' := S1) rfl ⟨_, rfl, ?_⟩, fun _ => wp_of (a := .str "narrow") (S' := S1) rfl ⟨_, rfl, ?_⟩⟩
  · exact main "wide" (by decide +kernel)
  · exact main "narrow" (by decide +kernel)
end
end Zd
namespace Zd
open PySem PySem.Spec PyProof.Rows L2 Zg
theorem pairsX {S S1 S2 : List Dat} {ρ : Env} {a b : Env → M Dat} {x y : Dat} {r : List ((Env → M Dat) × (Env → M Dat))} {l : List (Dat × Dat)} (ha : a ρ S = .ok x S) (hb : b ρ S = .ok y S1) (hr : xPairs r ρ S1 = .ok l S2) : xPairs ((a, b) :: r) ρ S = .ok ((x, y) :: l) S2 := by
  unfold xPairs
  rw [m_bind, ha]
  show ((b ρ >>= fun y => xPairs r ρ >>= fun l => pure ((x, y) :: l)) : M _) S = _
  rw [m_bind, hb]
  show ((xPairs r ρ >>= fun l => pure ((x, y) :: l)) : M _) S1 = _
  rw [m_bind, hr] <;> rfl
def dsOf : Nat → Nat → List Dat
  | _, 0 => []
  | i, r + 1 => .int (i : Int) :: dsOf (i + 1) r
theorem intsD_dsOf {n : Nat} (h1 : 1 ≤ n) (h3 : n ≤ 3) : intsD 0 n = dsOf 0 n := by
  match n, h1, h3 with
  | 1, _, _ => rfl
  | 2, _, _ => rfl
  | 3, _, _ => rfl
/-- the editions of a program -/
structure EdsOk (cs : List Str) (acc : List Dat) : Prop where
  all : ∀ e, e ∈ acc → ∃ first, EdnD first cs e
  one : ∀ e r, acc = e :: r → EdnD true cs e
theorem EdsOk.put {cs : List Str} {acc : List Dat} {i : Nat} {d : Dat} (A : EdsOk cs acc) (hi : acc.length = i) (E : EdnD (decide (i = 0)) cs d) : EdsOk cs (acc ++ [d]) := by
  refine ⟨fun e he => ?_, fun e r he => ?_⟩
  · rcases List.mem_append.mp he with he | he
    · exact A.all e he
    · rw [List.mem_singleton.mp he]
      exact ⟨_, E⟩
  · cases acc with
    | nil =>
      have i0 : i = 0 := hi.symm
      injection he with he _
      subst he
      rw [i0] at E
      exact E
    | cons a as =>
      injection he with he _
      subst he
      exact A.one a as rfl
def most3 : Dat := .lst [.int 3, .int 3, .int 3]
abbrev nmT (j : Int) : Env → M Dat := xCall L__law_names (xCons (xVar 0) (xCons (xOp dAdd (xC (.int 1)) (xCall L__law_take (xCons (xVar 0) (xCons (xOp dIxL (xVar 1) (xC (.int j))) xNil)))) xNil))
abbrev manyT : Env → M Dat := xOp dAdd (xC (.int 1)) (xCall L__law_take (xCons (xVar 0) (xCons (xOp dIxL (xVar 1) (xC (.int 2))) xNil)))
abbrev edsT : Env → M Dat := xLc (iRg1 (xCons (xVar 7) xNil)) (gN 8) bYes (xCall L__law_edition (xCons (xVar 0) (xCons (xVar 4) (xCons (xVar 8) xNil)))) [8]
abbrev pgB : Env → M Flow := sSeq (sAsg manyT (gN 7)) (sAppLo (xVar 5) (xCons (xTup (xCons (xVar 6) (xCons (xCB dTuple (xCons edsT xNil)) xNil))) xNil))
section
variable {ℓ m : Nat}
theorem w_nmT {j : Int} (hj : j = 0 ∨ j = 1) {k : Nat} {S : List Dat} {r : Env} {C : Dat → List Dat → Prop} (h : Pot ℓ (k + 11) S) (q : ∀ ss S', NmS ss → Pot ℓ k S' → FrE ℓ S S' → C (lstS ss) S') : wp (nmT j (some (.loc ℓ) :: some most3 :: r)) S C := by
  have h : Pot ℓ (k + 10 + 1) S := h
  refine wp_call (wp_cons (wp_of (a := .loc ℓ) (S' := S) rfl (wp_cons (wp_op (wp_c (wp_call (wp_cons (wp_of (a := .loc ℓ) (S' := S) rfl (wp_cons (wp_of (a := .int 3) (S' := S) ?_ (wp_nil ?_)))))))))))
  · rcases hj with rfl | rfl <;> rfl
  refine w_takeE h (by decide) (by decide) fun x S1 x0 x1 hp1 f1 => w_add (wp_nil ?_)
  obtain ⟨n, rfl⟩ := Int.eq_ofNat_of_zero_le x0
  rw [show (1 : Int) + (n : Int) = ((n + 1 : Nat) : Int) by omega]
  exact w_names hp1 (by omega) (by omega) fun ss S2 hs _ hp2 f2 => q ss S2 hs hp2 (f1.trans f2)
theorem w_many {k : Nat} {S : List Dat} {r : Env} {C : Dat → List Dat → Prop} (h : Pot ℓ (k + 1) S) (q : ∀ n S', 1 ≤ n → n ≤ 3 → Pot ℓ k S' → FrE ℓ S S' → C (.int ((n : Nat) : Int)) S') : wp (manyT (some (.loc ℓ) :: some most3 :: r)) S C := by
  refine wp_op (wp_c (wp_call (wp_cons (wp_of (a := .loc ℓ) (S' := S) rfl (wp_cons (wp_of (a := .int 3) (S' := S) rfl (wp_nil ?_)))))))
  refine w_takeE h (by decide) (by decide) fun x S1 x0 x1 hp1 f1 => w_add ?_
  obtain ⟨n, rfl⟩ := Int.eq_ofNat_of_zero_le x0
  rw [show (1 : Int) + (n : Int) = ((n + 1 : Nat) : Int) by omega]
  exact q (n + 1) S1 (by omega) (by omega) hp1 f1
theorem w_eds {n : Nat} {dn : Dat} {cs : List Str} {k : Nat} {S : List Dat} {p o : Dat} {v : Int} {a b c d e f : Option Dat} {C : Dat → List Dat → Prop} (hdn : dn = .int (n : Int)) (h1 : 1 ≤ n) (h3 : n ≤ 3) (hc : NmS cs) (h : Pot ℓ (k + 84) S) (hm : S[m]? = some (lore p o (tupS cs) v)) (hlm : m ≠ ℓ)
    (q : ∀ eds v' S', EdsOk cs eds → 1 ≤ eds.length → eds.length ≤ 3 → lftOk v v' ((eds.map cntE).sum) → S'[m]? = some (lore p o (tupS cs) v') → Pot ℓ k S' → FrM ℓ m S S' → C (.lst eds) S') : wp (edsT [some (.loc ℓ), a, b, c, some (.loc m), d, e, some dn, f]) S C := by
  refine wp_lc (wp_rg1 (wp_cons (wp_of (a := dn) (S' := S) rfl (wp_nil ⟨n, by rw [hdn], by omega, by rw [intsD_len]; omega, ?_⟩))))
  rw [intsD_dsOf h1 h3]
  refine wp_comp (I := fun left acc S' => ∃ i r v', left = dsOf i r ∧ i + r = n ∧ acc.length = i ∧ Pot ℓ (k + 28 * r) S' ∧ S'[m]? = some (lore p o (tupS cs) v') ∧ FrM ℓ m S S' ∧ EdsOk cs acc ∧ lftOk v v' ((acc.map cntE).sum)) (fun d ds acc S2 ⟨i, r, v', el, ir, li, hp, hv, hf, A, L⟩ => ?_) _ [] S _ ⟨0, n, v, rfl, by omega, rfl, h.le (by omega), hm, .refl, ⟨nofun, nofun⟩, lft0⟩ fun xs S2 ⟨i, r, v', el, ir, li, hp, hv, hf, A, L⟩ => ?_
  · match r, el with
    | r + 1, el =>
      injection el with e1 e2
      subst e1
      subst e2
      refine ⟨_, rfl, ?_⟩
      refine wp_call (wp_cons (wp_of (a := .loc ℓ) (S' := S2) rfl (wp_cons (wp_of (a := .loc m) (S' := S2) rfl (wp_cons (wp_of (a := .int (i : Int)) (S' := S2) rfl (wp_nil ?_)))))))
      refine w_edition (k := k + 28 * r) hc (hp.le (by omega)) hv hlm fun d v2 S3 E L3 hv3 hp3 f3 => ?_
      exact ⟨i + 1, r, v2, rfl, by omega, by rw [List.length_append, li] <;> rfl, hp3, hv3, hf.trans f3, A.put li E, by
        rw [List.map_append, List.sum_append]
        show lftOk v v2 ((acc.map cntE).sum + (cntE d + 0))
        rw [Nat.add_zero]
        exact lft_add L L3⟩
  · rw [List.nil_append] at li A L
    match r, el with
    | 0, _ => exact q xs v' S2 A (by omega) (by omega) L hv (hp.le (by omega)) hf
/-- the state of the loop over the programs' names -/
structure PgI (cs : List Str) (k m n : Nat) (e2 e3 : Option Dat) (p o : Dat) (S0 : List Dat) (nm : List Str) (ds : List Dat) (ρ : Env) (S : List Dat) : Prop where
  sh : ∃ done rest acc v z6 z7 z8, nm = done ++ rest ∧ ds = rest.map .str ∧ ρ = [some (.loc ℓ), some most3, e2, e3, some (.loc m), some (.loc n), z6, z7, z8] ∧ Pot ℓ (k + 85 * rest.length) S ∧ S[n]? = some (.lst acc) ∧ S[m]? = some (lore p o (tupS cs) v) ∧
    (∀ p, p ∈ acc → PgmD cs p) ∧ acc.map fstD = done.map .str ∧ lftOk 0 v ((acc.map cntP).sum)
  fr : FrM ℓ m S0 S
theorem pg_step {cs : List Str} {k n : Nat} {e2 e3 : Option Dat} {p o : Dat} {S0 : List Dat} {nm : List Str} (hc : NmS cs) (hnm : NmS nm) (hn : S0.length ≤ n) (hl : n ≠ ℓ) (hmn : n ≠ m) (hlm : m ≠ ℓ) {d : Dat} {ds : List Dat} {ρ : Env} {S : List Dat} (I : PgI (ℓ := ℓ) cs k m n e2 e3 p o S0 nm (d :: ds) ρ S) :
    ∃ ρ1, gN 6 ρ d = some ρ1 ∧ wp (pgB ρ1) S fun f S' => match f with | .nx ρ2 => PgI (ℓ := ℓ) cs k m n e2 e3 p o S0 nm ds ρ2 S' | _ => False := by
  obtain ⟨⟨done, rest, acc, v, z6, z7, z8, e, ed, rfl, hp, ha, hv, A, ef, L⟩, hf⟩ := I
  have W := @w_eds ℓ m
  unfold pgB
  generalize edsT = F at W ⊢
  match rest, ed with
  | c :: rest, ed =>
    injection ed with ed1 ed2
    subst ed1
    subst ed2
    have lla : acc.length = done.length := by
      have := congrArg List.length ef
      rw [List.length_map, List.length_map] at this
      exact this
    have lld : done.length ≤ 3 := by
      have := congrArg List.length e
      rw [List.length_append] at this
      have := hnm.l3
      omega
    have hp : Pot ℓ (k + 85 * rest.length + 84 + 1) S := hp.le (by rw [List.length_cons]; omega)
    refine ⟨_, rfl, ?_⟩
    refine wp_seq (wp_asg ?_)
    refine w_many hp fun j S1 j1 j3 hp1 f1 => ?_
    refine ⟨[some (.loc ℓ), some most3, e2, e3, some (.loc m), some (.loc n), some (.str c), some (.int ((j : Nat) : Int)), z8], rfl, ?_⟩
    dsimp only
    have ha1 := f1.1.get ha hl
    have hv1 := f1.1.get hv hlm
    refine wp_app (n := n) (xs := acc) rfl ha1 (wp_cons (wp_tup (wp_cons (wp_of (a := .str c) (S' := S1) rfl (wp_cons (wp_cb (wp_cons ?_)))))))
    refine W rfl j1 j3 hc hp1 hv1 hlm fun eds v' S2 E l1 l3 L2 hv2 hp2 f2 => ?_
    have ha2 := f2.get ha1 hl hmn
    refine wp_nil (wp_of (a := .tup eds) (S' := S2) rfl ?_)
    refine wp_nil ⟨(by decide : 2 ≤ 1000), wp_nil ⟨_, acc, rfl, ha2, by omega, ?_⟩⟩
    have cn : IsNm c := hnm.n c (by rw [e]; exact List.mem_append_right _ List.mem_cons_self)
    refine ⟨⟨done ++ [c], rest, acc ++ [.tup [.str c, .tup eds]], v', _, _, _, by rw [e, List.append_assoc] <;> rfl, rfl, rfl, hp2.other hl, set_get ha2, ?_, fun p hp => ?_, by rw [List.map_append, List.map_append, ef] <;> rfl, ?_⟩, ((hf.step f1.1).trans f2).setNew hn⟩
    · rw [List.getElem?_set_ne hmn]
      exact hv2
    · rcases List.mem_append.mp hp with hp | hp
      · exact A p hp
      · rw [List.mem_singleton.mp hp]
        exact ⟨c, eds, rfl, cn, l1, l3, E.all, E.one⟩
    · rw [List.map_append, List.sum_append]
      show lftOk 0 v' ((acc.map cntP).sum + ((eds.map cntE).sum + 0))
      rw [Nat.add_zero]
      exact lft_add L L2
end
end Zd
namespace Zd
open PySem PySem.Spec PyProof.Rows L2 Zg
abbrev loreK6 : List Key := [.inr "late", .inr "narrow", .inr "wide", .inr "columns", .inr "programs", .inr "world"]
def loreW (n w : Ki) (cs : List Str) (ps : List Dat) (v : Int) : Dat := .dic loreK6 [.int v, kP n, kP w, tupS cs, .tup ps, worldO n w cs ps]
def lore5 (n w : Ki) (cs : List Str) (ps : List Dat) (v : Int) : Dat := .dic [.inr "late", .inr "narrow", .inr "wide", .inr "columns", .inr "programs"] [.int v, kP n, kP w, tupS cs, .tup ps]
theorem put5 {n w : Ki} {cs : List Str} {ps : List Dat} {v : Int} : Dat.dic (putKN (.inr "programs") loreK) (putKV (.inr "programs") (.tup ps) loreK [.int v, kP n, kP w, tupS cs]) = lore5 n w cs ps v := by kernel_rfl
theorem put6 {n w : Ki} {cs : List Str} {ps : List Dat} {v : Int} : Dat.dic (putKN (.inr "world") [.inr "late", .inr "narrow", .inr "wide", .inr "columns", .inr "programs"]) (putKV (.inr "world") (worldO n w cs ps) [.inr "late", .inr "narrow", .inr "wide", .inr "columns", .inr "programs"] [.int v, kP n, kP w, tupS cs, .tup ps]) = loreW n w cs ps v := by kernel_rfl
theorem get5c {a b c d e : Dat} : lkK (.inr "columns") [.inr "late", .inr "narrow", .inr "wide", .inr "columns", .inr "programs"] [a, b, c, d, e] = some d := by kernel_rfl
theorem get5p {a b c d e : Dat} : lkK (.inr "programs") [.inr "late", .inr "narrow", .inr "wide", .inr "columns", .inr "programs"] [a, b, c, d, e] = some e := by kernel_rfl
abbrev loreT : Env → M Dat := xDisp [((xC (.str "late")), (xC (.int 0))), ((xC (.str "narrow")), (xVar 2)), ((xC (.str "wide")), (xVar 3)), ((xC (.str "columns")), (xCB dTuple (xCons (nmT 0) xNil)))]
theorem lore_at {S S' : List Dat} {a b n w c d e f g : Option Dat} {x y : Dat} {cs : List Str} (h : xCB dTuple (xCons (nmT 0) xNil) [a, b, some x, some y, c, d, e, f, g] S = .ok (tupS cs) S') : loreT [a, b, some x, some y, c, d, e, f, g] S = .ok (lore x y (tupS cs) 0) S' := by
  have P4 := pairsX (a := xC (.str "columns")) (x := .str "columns") (r := []) (l := []) (ρ := [a, b, some x, some y, c, d, e, f, g]) rfl h rfl
  have P3 := pairsX (a := xC (.str "wide")) (x := .str "wide") (b := xVar 3) (y := y) rfl rfl P4
  have P2 := pairsX (a := xC (.str "narrow")) (x := .str "narrow") (b := xVar 2) (y := x) rfl rfl P3
  have P1 := pairsX (a := xC (.str "late")) (x := .str "late") (b := xC (.int 0)) (y := .int 0) rfl rfl P2
  unfold loreT xDisp
  rw [m_bind, P1]
  kernel_rfl
theorem newLo_at {a : Env → M Dat} {ρ : Env} {S S' : List Dat} {d : Dat} (h : a ρ S = .ok d S') : xNewLo a ρ S = .ok (.loc S'.length) (S' ++ [d]) := by
  show M.bnd (a ρ) (fun d S => Out.ok (Dat.loc S.length) (S ++ [d])) S = _
  unfold M.bnd
  rw [h]
section
variable {ℓ : Nat}
theorem w_world {k : Nat} {S : List Dat} {C : Dat → List Dat → Prop} (h : Pot ℓ (k + 284) S) (q : ∀ n w cs ps v mm S', KdD n w → NmS cs → Pgms cs ps → S'[mm]? = some (loreW n w cs ps v) → S.length ≤ mm → Pot ℓ k S' → FrS ℓ S S' → C (.loc mm) S') : wp (L__law_world [.loc ℓ, most3]) S C := by
  refine wp_run ?_
  have h : Pot ℓ (k + 277 + 7) S := h
  refine wp_seq (wp_asg (wp_call (wp_cons (wp_of (a := .loc ℓ) (S' := S) rfl (wp_nil ?_)))))
  refine w_kinds h fun n w S1 K hp1 f1 => ?_
  refine ⟨[some (.loc ℓ), some most3, some (kP n), some (kP w), none, none, none, none, none], rfl, ?_⟩
  dsimp only
  -- the lore
  have hp1 : Pot ℓ (k + 266 + 11) S1 := hp1
  have wc : wp (xCB dTuple (xCons (nmT 0) xNil) [some (.loc ℓ), some most3, some (kP n), some (kP w), none, none, none, none, none]) S1 fun d S2 => ∃ cs, d = tupS cs ∧ NmS cs ∧ Pot ℓ (k + 266) S2 ∧ FrE ℓ S1 S2 := wp_cb (wp_cons (w_nmT (.inl rfl) hp1 fun cs S2 hc hp2 f2 => wp_nil (wp_of (a := tupS cs) (S' := S2) rfl ⟨cs, rfl, hc, hp2, f2⟩)))
  obtain ⟨d, S2, ec, cs, rfl, hc, hp2, f2⟩ := wp_ok wc
  have el := lore_at (n := none) (w := none) ec
  refine wp_seq (wp_asg (wp_of (a := .loc S2.length) (S' := S2 ++ [lore (kP n) (kP w) (tupS cs) 0]) (newLo_at el) ?_))
  refine ⟨[some (.loc ℓ), some most3, some (kP n), some (kP w), some (.loc S2.length), none, none, none, none], rfl, ?_⟩
  dsimp only
  have gl : (S2 ++ [lore (kP n) (kP w) (tupS cs) 0])[S2.length]? = some (lore (kP n) (kP w) (tupS cs) 0) := by rw [List.getElem?_append_right (Nat.le_refl _), Nat.sub_self] <;> rfl
  have hl2 := hp2.newGet (Nat.le_refl S2.length)
  have l12 : S1.length = S2.length := f2.2.symm
  have l01 : S1.length = S.length := f1.2
  generalize hS3 : S2 ++ [lore (kP n) (kP w) (tupS cs) 0] = S3 at gl ⊢
  have l3 : S3.length = S2.length + 1 := by rw [← hS3, List.length_append] <;> rfl
  have hp3 : Pot ℓ (k + 266) S3 := hS3 ▸ hp2.push
  have f3 : FrS ℓ S S3 := hS3 ▸ ((f1.1.trans f2.1).trans .push)
  refine wp_seq (wp_asg (wp_of (a := .loc S3.length) (S' := S3 ++ [.lst []]) rfl ?_))
  refine ⟨[some (.loc ℓ), some most3, some (kP n), some (kP w), some (.loc S2.length), some (.loc S3.length), none, none, none], rfl, ?_⟩
  dsimp only
  have gm : (S3 ++ [Dat.lst []])[S2.length]? = some (lore (kP n) (kP w) (tupS cs) 0) := by rw [List.getElem?_append_left (by omega)]; exact gl
  have gn : (S3 ++ [Dat.lst []])[S3.length]? = some (.lst []) := by rw [List.getElem?_append_right (Nat.le_refl _), Nat.sub_self] <;> rfl
  have hl3 := hp3.newGet (Nat.le_refl S3.length)
  have hp4 : Pot ℓ (k + 255 + 11) (S3 ++ [Dat.lst []]) := hp3.push
  -- the programs
  refine wp_seq ?_
  have loop : wp (sFor (iLst (nmT 1)) (gN 6) pgB [some (.loc ℓ), some most3, some (kP n), some (kP w), some (.loc S2.length), some (.loc S3.length), none, none, none]) (S3 ++ [Dat.lst []]) fun f S' => ∃ ps v z6 z7 z8, f = .nx [some (.loc ℓ), some most3, some (kP n), some (kP w), some (.loc S2.length), some (.loc S3.length), z6, z7, z8] ∧
      Pgms cs ps ∧ S'[S3.length]? = some (.lst ps) ∧ S'[S2.length]? = some (lore (kP n) (kP w) (tupS cs) v) ∧ Pot ℓ k S' ∧ FrM ℓ S2.length S3 S' := by
    refine wp_bind (wp_bind (w_nmT (.inr rfl) hp4 fun nm S5 hnm hp5 f5 => ?_))
    refine wp_of (a := nm.map .str) (S' := S5) rfl ?_
    have ln := hnm.l3
    have f35 : FrS ℓ S3 S5 := FrS.push.trans f5.1
    refine wp_for (I := PgI (ℓ := ℓ) cs k S2.length S3.length (some (kP n)) (some (kP w)) (kP n) (kP w) S3 nm) (fun d ds ρ S6 I => ?_) (fun ρ S6 I => ?_) _ _ _ ⟨⟨[], nm, [], 0, _, _, _, rfl, rfl, rfl, hp5.le (by omega), f5.1.get gn hl3, f5.1.get gm hl2, nofun, rfl, lft0⟩, f35.toM⟩
    · obtain ⟨ρ1, e1, ws⟩ := pg_step hc hnm (Nat.le_refl _) hl3 (by omega) hl2 I
      refine ⟨ρ1, e1, wp_mono ws fun f S2 z => ?_⟩
      cases f with
      | nx ρ2 => exact z
      | ct ρ2 => exact z.elim
      | bk ρ2 => exact z.elim
      | rt d => exact z.elim
    · obtain ⟨⟨done, rest, acc, v, z6, z7, z8, e, ed, rfl, hp, ha, hv, A, ef, L⟩, hf⟩ := I
      match rest, ed with
      | [], _ =>
        rw [List.append_nil] at e
        subst e
        exact ⟨acc, v, z6, z7, z8, rfl, ⟨A, ⟨nm, hnm, ef⟩, by unfold lftOk at L; omega⟩, ha, hv, hp.le (by omega), hf⟩
  refine wp_mono loop fun f S6 z => ?_
  obtain ⟨ps, v, z6, z7, z8, rfl, P, ha, hv, hp6, f6⟩ := z
  dsimp only
  clear loop
  -- what is kept
  have e1 := dput_at (S := S6) (ρ := [some (.loc ℓ), some most3, some (kP n), some (kP w), some (.loc S2.length), some (.loc S3.length), z6, z7, z8]) (o := xVar 4) (b := xC (.str "programs")) (a := xCB dTupleLo (xCons (xVar 5) xNil)) (x := .tup ps) (n := S2.length) (s := "programs") (cb_at (S1 := S6) (ds := [.loc S3.length]) rfl (by
    unfold dTupleLo
    dsimp only
    rw [ha])) rfl rfl hv (by decide)
  rw [put5] at e1
  refine wp_seqA e1 ?_
  have hv7 : (S6.set S2.length (lore5 n w cs ps v))[S2.length]? = some (lore5 n w cs ps v) := set_get hv
  have e2 := dput_at (S := S6.set S2.length (lore5 n w cs ps v)) (ρ := [some (.loc ℓ), some most3, some (kP n), some (kP w), some (.loc S2.length), some (.loc S3.length), z6, z7, z8]) (o := xVar 4) (b := xC (.str "world"))
    (a := xCall (callF (mkNew "World" L_World___init__)) (xCons (xCall (callF (mkNew "Kind" L_Kind___init__)) (xCons (xOp dIxT (xVar 2) (xC (.int 0))) (xCons (xOp dIxT (xVar 2) (xC (.int 1))) xNil))) (xCons (xCall (callF (mkNew "Kind" L_Kind___init__)) (xCons (xOp dIxT (xVar 3) (xC (.int 0))) (xCons (xOp dIxT (xVar 3) (xC (.int 1))) xNil))) (xCons (xDGetLo (xVar 4) (xC (.str "columns"))) (xCons (xDGetLo (xVar 4) (xC (.str "programs"))) xNil)))))
    (x := worldO n w cs ps) (n := S2.length) (s := "world") (call_at (S1 := S6.set S2.length (lore5 n w cs ps v)) (ds := [kindO n, kindO w, tupS cs, .tup ps]) (cons_at (S1 := S6.set S2.length (lore5 n w cs ps v)) (call_at (S1 := S6.set S2.length (lore5 n w cs ps v)) (ds := [.int n.1, .int n.2]) rfl (kind_at K.a K.b)) (cons_at (S1 := S6.set S2.length (lore5 n w cs ps v)) (call_at (S1 := S6.set S2.length (lore5 n w cs ps v)) (ds := [.int w.1, .int w.2]) rfl (kind_at (by have := K.a; have := K.d; omega) (by have := K.b; have := K.e; omega))) (cons_at (dget_at rfl rfl hv7 get5c) (cons_at (dget_at rfl rfl hv7 get5p) rfl)))) (world_at K.toKd hc P)) rfl rfl hv7 (by decide)
  rw [put6] at e2
  refine wp_seqA e2 ?_
  refine wp_ret (wp_of (a := .loc S2.length) (S' := (S6.set S2.length (lore5 n w cs ps v)).set S2.length (loreW n w cs ps v)) rfl (wp_pure (q n w cs ps v S2.length _ K hc P (set_get hv7) (by omega) ((hp6.other hl2).other hl2) ?_)))
  have g6 : FrM ℓ S2.length S3 ((S6.set S2.length (lore5 n w cs ps v)).set S2.length (loreW n w cs ps v)) := (f6.chg List.length_set fun j hj => List.getElem?_set_ne fun e => hj e.symm).chg List.length_set fun j hj => List.getElem?_set_ne fun e => hj e.symm
  exact ⟨Nat.le_trans f3.1 g6.1, fun j l n => (g6.2 j (by omega) n (by omega)).trans (f3.2 j l n)⟩
end
end Zd
namespace Zd
open PySem PySem.Spec PyProof.Rows L2 Zg
mutual
def pl : Dat → Bool
  | .int _ => true
  | .str _ => true
  | .tup ds => pls ds
  | .lst ds => pls ds
  | _ => false
def pls : List Dat → Bool
  | [] => true
  | d :: ds => pl d && pls ds
end
mutual
theorem eqv_inj : ∀ (d e : Dat) (x y : PyData), pl d = true → pl e = true → toPy d = some x → toPy e = some y → PyData.eqv x y = true → d = e
  | .int i, e, x, y, _, he, hx, hy, h => by
    rw [toPy] at hx
    cases hx
    cases e with
    | int j => rw [toPy] at hy; cases hy; rw [show i = j by simpa [PyData.eqv] using h]
    | str s => rw [toPy] at hy; cases hy; simp [PyData.eqv] at h
    | tup ds => obtain ⟨ys, _, rfl⟩ := toPy_tup hy; simp [PyData.eqv] at h
    | lst ds => obtain ⟨ys, _, rfl⟩ := toPy_lst hy; simp [PyData.eqv] at h
    | _ => rw [pl] at he <;> cases he
  | .str i, e, x, y, _, he, hx, hy, h => by
    rw [toPy] at hx
    cases hx
    cases e with
    | int j => rw [toPy] at hy; cases hy; simp [PyData.eqv] at h
    | str s => rw [toPy] at hy; cases hy; rw [show i = s by simpa [PyData.eqv] using h]
    | tup ds => obtain ⟨ys, _, rfl⟩ := toPy_tup hy; simp [PyData.eqv] at h
    | lst ds => obtain ⟨ys, _, rfl⟩ := toPy_lst hy; simp [PyData.eqv] at h
    | _ => rw [pl] at he <;> cases he
  | .tup ds, e, x, y, hd, he, hx, hy, h => by
    obtain ⟨xs, ex, rfl⟩ := toPy_tup hx
    rw [pl] at hd
    cases e with
    | int j => rw [toPy] at hy; cases hy; simp [PyData.eqv] at h
    | str s => rw [toPy] at hy; cases hy; simp [PyData.eqv] at h
    | tup es =>
      obtain ⟨ys, ey, rfl⟩ := toPy_tup hy
      rw [pl] at he
      rw [PyData.eqv] at h
      rw [eqv_injs ds es xs ys hd he ex ey h]
    | lst es => obtain ⟨ys, _, rfl⟩ := toPy_lst hy; simp [PyData.eqv] at h
    | _ => rw [pl] at he <;> cases he
  | .lst ds, e, x, y, hd, he, hx, hy, h => by
    obtain ⟨xs, ex, rfl⟩ := toPy_lst hx
    rw [pl] at hd
    cases e with
    | int j => rw [toPy] at hy; cases hy; simp [PyData.eqv] at h
    | str s => rw [toPy] at hy; cases hy; simp [PyData.eqv] at h
    | tup es => obtain ⟨ys, _, rfl⟩ := toPy_tup hy; simp [PyData.eqv] at h
    | lst es =>
      obtain ⟨ys, ey, rfl⟩ := toPy_lst hy
      rw [pl] at he
      rw [PyData.eqv] at h
      rw [eqv_injs ds es xs ys hd he ex ey h]
    | _ => rw [pl] at he <;> cases he
  | .non, _, _, _, hd, _, _, _, _ => by rw [pl] at hd <;> cases hd
  | .bl _, _, _, _, hd, _, _, _, _ => by rw [pl] at hd <;> cases hd
  | .dic _ _, _, _, _, hd, _, _, _, _ => by rw [pl] at hd <;> cases hd
  | .obj _ _ _, _, _, _, hd, _, _, _, _ => by rw [pl] at hd <;> cases hd
  | .loc _, _, _, _, hd, _, _, _, _ => by rw [pl] at hd <;> cases hd
  | .ty _, _, _, _, hd, _, _, _, _ => by rw [pl] at hd <;> cases hd
  | .cls _, _, _, _, hd, _, _, _, _ => by rw [pl] at hd <;> cases hd
  | .scr _, _, _, _, hd, _, _, _, _ => by rw [pl] at hd <;> cases hd
theorem eqv_injs : ∀ (ds es : List Dat) (xs ys : List PyData), pls ds = true → pls es = true → toPys ds = some xs → toPys es = some ys → PyData.eqvAll xs ys = true → ds = es
  | [], [], _, _, _, _, _, _, _ => rfl
  | [], e :: es, xs, ys, _, _, hx, hy, h => by
    rw [toPys] at hx
    cases hx
    obtain ⟨y, ys', _, _, rfl⟩ := toPys_two hy
    simp [PyData.eqvAll] at h
  | d :: ds, [], xs, ys, _, _, hx, hy, h => by
    rw [toPys] at hy
    cases hy
    obtain ⟨x, xs', _, _, rfl⟩ := toPys_two hx
    simp [PyData.eqvAll] at h
  | d :: ds, e :: es, xs, ys, hd, he, hx, hy, h => by
    obtain ⟨x, xs', h1, h2, rfl⟩ := toPys_two hx
    obtain ⟨y, ys', k1, k2, rfl⟩ := toPys_two hy
    rw [pls, Bool.and_eq_true] at hd he
    rw [PyData.eqvAll, Bool.and_eq_true] at h
    rw [eqv_inj d e x y hd.1 he.1 h1 k1 h.1, eqv_injs ds es xs' ys' hd.2 he.2 h2 k2 h.2]
end
theorem pls_of : ∀ {ds : List Dat}, (∀ d, d ∈ ds → pl d = true) → pls ds = true
  | [], _ => rfl
  | d :: ds, h => by
    rw [pls, h d List.mem_cons_self, pls_of fun x m => h x (List.mem_cons_of_mem _ m)]
    rfl
theorem pl_tup {ds : List Dat} (h : ∀ d, d ∈ ds → pl d = true) : pl (.tup ds) = true := by
  rw [pl]
  exact pls_of h
section
variable {S : List Dat} {k : Nat} {d e : Dat} {b : Bool}
theorem eqD_ne (h : PyS k d) (h2 : PyS k e) (hk : k ≤ 64) (p : pl d = true) (q : pl e = true) (ne : d ≠ e) : dEqD b d e S = .ok (.bl (b != false)) S := by
  obtain ⟨y, e1, s, c⟩ := h.shp hk
  obtain ⟨z, e2, s2, c2⟩ := h2.shp hk
  have v : PyData.eqv y z = false := by
    cases w : PyData.eqv y z with
    | false => rfl
    | true => exact absurd (eqv_inj d e y z p q e1 e2 w) ne
  unfold dEqD
  rw [e1, e2]
  show ((M.need (Zd.shp y && Zd.shp z) >>= fun _ => pure (.bl (b != PyData.eqv y z))) : M Dat) S = _
  rw [s, s2, v]
  rfl
end
def SwB (n b : Nat) (d : Dat) : Prop := (∃ y, toPy d = some y ∧ Swy n b y) ∧ pl d = true
theorem SwB.py {n b : Nat} {d : Dat} (h : SwB n b d) : PyS n d := by
  obtain ⟨⟨y, e, s, _, c⟩, _⟩ := h
  exact ⟨y, e, c, s.dp⟩
theorem SwB.le {n b m c : Nat} {d : Dat} (h : SwB n b d) (h1 : n ≤ m) (h2 : b ≤ c) : SwB m c d := ⟨sw_le h.1 h1 h2, h.2⟩
theorem swb_str {s : Str} (h : strB s = true) (o : okS s) : SwB 1 20 (.str s) := ⟨lg_s (n := 0) (.inl ⟨s, rfl, h, o⟩), rfl⟩
theorem swb_int {i : Int} (h : -(10 ^ 20) < i ∧ i < 10 ^ 20) : SwB 1 20 (.int i) := ⟨lg_s (n := 0) (.inr (.inl ⟨i, rfl, h.1, h.2⟩)), rfl⟩
theorem swb_tup {n b k : Nat} {ds : List Dat} (l : ds.length ≤ k) (h : ∀ x, x ∈ ds → SwB n b x) : SwB (n + 1) (k * (b + 1)) (.tup ds) := ⟨sw_tup l fun x m => (h x m).1, pl_tup fun x m => (h x m).2⟩
theorem swb_lst {n b k : Nat} {ds : List Dat} (l : ds.length ≤ k) (h : ∀ x, x ∈ ds → SwB n b x) : SwB (n + 1) (k * (b + 1)) (.lst ds) := by
  obtain ⟨ys, es, s, q, c, _⟩ := sw_all ds fun x m => (h x m).1
  refine ⟨⟨.list ys, by rw [toPy, es]; rfl, s.lst.le (Nat.le_refl _) (Nat.mul_le_mul_right _ l), by simp only [PyData.hasDict]; exact q, by simp only [PyData.canLay0]; exact c⟩, ?_⟩
  rw [pl]
  exact pls_of fun x m => (h x m).2
theorem swb_pair {n b c : Nat} {x y : Dat} (h : SwB n b x) (k : SwB n c y) : SwB (n + 1) (b + 1 + (c + 1)) (.tup [x, y]) := by
  obtain ⟨⟨u, e1, s1, d1, c1⟩, p1⟩ := h
  obtain ⟨⟨v, e2, s2, d2, c2⟩, p2⟩ := k
  refine ⟨⟨.tuple [u, v], ?_, (Shws.cons s1 (Shws.cons s2 Shws.nil)).tup.le (Nat.le_refl _) (by omega), ?_, ?_⟩, pl_tup (st_all2 (P := fun d => pl d = true) p1 p2)⟩
  · rw [toPy, toPys, toPys, e1, e2] <;> rfl
  · simp only [PyData.hasDict, PyData.hasDictAll, d1, d2, Bool.or_self]
  · simp only [PyData.canLay0, PyData.canLayAll0, c1, c2, Bool.and_self]
theorem IsNm.strB {s : Str} (h : IsNm s) : strB s = true := by
  unfold Zd.strB
  rw [Bool.and_eq_true]
  refine ⟨List.all_eq_true.mpr fun c m => decide_eq_true (by have := h.ls c m; omega), decide_eq_true ?_⟩
  have := h.size
  show s.length ≤ 20
  omega
theorem IsNm.sw {s : Str} (h : IsNm s) : SwB 1 20 (.str s) := swb_str h.strB h.ok
def litsL : List Str := sidesL ++ howsL ++ rulesL ++ [("" : Str), "match", "order", "show"]
theorem lits_ok : ∀ x, x ∈ litsL → strB x = true ∧ okS x := by decide +kernel
theorem deeds_ok : ∀ ds, ds ∈ deedsL → ds.length ≤ 3 ∧ ∀ x, x ∈ ds → x ∈ (["match", "order", "show"] : List Str) := by decide +kernel
theorem sw_lit {x : Str} (h : x ∈ litsL) : SwB 1 20 (.str x) := swb_str (lits_ok x h).1 (lits_ok x h).2
theorem sw_side {x : Str} (h : x ∈ sidesL) : SwB 1 20 (.str x) := sw_lit (List.mem_append_left _ (List.mem_append_left _ (List.mem_append_left _ h)))
theorem sw_how {x : Str} (h : x ∈ howsL) : SwB 1 20 (.str x) := sw_lit (List.mem_append_left _ (List.mem_append_left _ (List.mem_append_right _ h)))
theorem sw_rule {x : Str} (h : x ∈ rulesL) : SwB 1 20 (.str x) := sw_lit (List.mem_append_left _ (List.mem_append_right _ h))
theorem sw_deed {x : Str} (h : x ∈ (["match", "order", "show"] : List Str)) : SwB 1 20 (.str x) := sw_lit (List.mem_append_right _ (List.mem_cons_of_mem _ h))
theorem sw_names {ss : List Str} (l : ss.length ≤ 3) (h : ∀ s, s ∈ ss → IsNm s) : SwB 2 63 (tupS ss) := swb_tup (k := 3) (ds := ss.map .str) (by rw [List.length_map]; exact l) fun d hd => by
  obtain ⟨s, hs, rfl⟩ := List.mem_map.mp hd
  exact (h s hs).sw
theorem RdRow.sw {f : Bool} {c : Str} {d : Dat} (n : IsNm c) (h : RdRow f c d) : SwB 3 192 d := by
  obtain ⟨side, deeds, h1, _, h2, rfl⟩ := h
  refine swb_tup (k := 3) (by simp) (st_all3 (P := SwB 2 63) (n.sw.le (by decide) (by decide)) ((sw_side h1).le (by decide) (by decide)) (swb_tup (n := 1) (b := 20) (k := 3) (ds := deeds.map .str) (by rw [List.length_map]; exact (deeds_ok deeds h2).1) fun d hd => ?_))
  obtain ⟨s, hs, rfl⟩ := List.mem_map.mp hd
  exact sw_deed ((deeds_ok deeds h2).2 s hs)
theorem WrRow.sw {f : Bool} {srcs : List Str} {c : Str} {d : Dat} (n : IsNm c) (hs : ∀ s, s ∈ srcs → IsNm s) (h : WrRow f srcs c d) : SwB 2 105 d := by
  obtain ⟨how, rule, src, pace, h1, _, h2, h3, h4, rfl⟩ := h
  have s5 : SwB 1 20 (.str src) := by
    by_cases e : src = ""
    · subst e
      exact sw_lit (List.mem_append_right _ List.mem_cons_self)
    · exact (hs src (h4 e).1).sw
  refine swb_tup (n := 1) (b := 20) (k := 5) (ds := [.str c, .str how, .str rule, .str src, .int pace]) (by simp) fun x m => ?_
  rcases List.mem_cons.mp m with m | m
  · rw [m]; exact n.sw
  · exact st_all4 (P := SwB 1 20) (sw_how h1) (sw_rule h2) s5 (swb_int (by omega)) x m
theorem EdnD.sw {f : Bool} {cs : List Str} {d : Dat} (hc : NmS cs) (h : EdnD f cs d) : SwB 5 1740 d := by
  obtain ⟨sight, rs, ws, rfl, E⟩ := h
  have l3 := hc.l3
  have s1 : ∀ x, x ∈ (["narrow", "wide"] : List Str) → x ∈ sidesL := by decide +kernel
  obtain ⟨ss, sub, ef⟩ := E.r.fs
  have sn : ∀ s, s ∈ firsts rs → IsNm s := fun s m => by
    rw [firsts_of ef] at m
    exact hc.n s (sub.mem m)
  refine swb_tup (k := 3) (by simp) (st_all3 (P := SwB 4 579) ((sw_side (s1 _ E.s)).le (by decide) (by decide)) (swb_tup (n := 3) (b := 192) (k := 3) (ds := rs) (by have := E.r.len; omega) fun d hd => ?_) ((swb_tup (n := 2) (b := 105) (k := 3) (ds := ws) (by have := E.w.len; omega) fun d hd => ?_).le (by decide) (by decide)))
  · obtain ⟨c, hc', k⟩ := E.r.at_ d hd
    exact k.sw (hc.n c hc')
  · obtain ⟨c, hc', k⟩ := E.w.at_ d hd
    exact k.sw (hc.n c hc') sn
theorem PgmD.sw {cs : List Str} {d : Dat} (hc : NmS cs) (h : PgmD cs d) : SwB 7 5245 d := by
  obtain ⟨name, eds, rfl, E⟩ := h
  exact swb_pair (b := 20) (c := 5223) (E.n.sw.le (by decide) (by decide)) (swb_tup (k := 3) E.l3 fun d hd => (E.all d hd).elim fun f k => k.sw hc)
theorem Pgms.len {cs : List Str} {ps : List Dat} (h : Pgms cs ps) : 1 ≤ ps.length ∧ ps.length ≤ 3 := by
  obtain ⟨ss, hs, ef⟩ := h.fs
  have e2 := congrArg List.length ef
  rw [List.length_map, List.length_map] at e2
  have := hs.l1
  have := hs.l3
  omega
theorem Pgms.sw {cs : List Str} {ps : List Dat} (hc : NmS cs) (h : Pgms cs ps) : SwB 8 15738 (.tup ps) := swb_tup (k := 3) h.len.2 fun d hd => (h.all d hd).sw hc
theorem kP_sw {q : Ki} (h : -(10 ^ 20) < q.1 ∧ q.1 < 10 ^ 20) (k : -(10 ^ 20) < q.2 ∧ q.2 < 10 ^ 20) : SwB 2 42 (kP q) := swb_tup (k := 2) (by simp) (st_all2 (P := SwB 1 20) (swb_int h) (swb_int k))
theorem told_sw {n w : Ki} {cs : List Str} {ps : List Dat} (hk : Kd n w) (hc : NmS cs) (h : Pgms cs ps) : SwB 9 62956 (.lst [kP n, kP w, tupS cs, .tup ps]) := by
  obtain ⟨a, b, c, d, e, f, g⟩ := hk
  exact swb_lst (k := 4) (by simp) (st_all4 (P := SwB 8 15738) ((kP_sw (by omega) (by omega)).le (by decide) (by decide)) ((kP_sw (by omega) (by omega)).le (by decide) (by decide)) ((sw_names hc.l3 hc.n).le (by decide) (by decide)) (h.sw hc))
theorem told_repr {n w : Ki} {cs : List Str} {ps : List Dat} (hk : Kd n w) (hc : NmS cs) (h : Pgms cs ps) : ∃ z : Str, ∀ S, dRepr2 [.lst [kP n, kP w, tupS cs, .tup ps]] S = .ok (.str z) S := sw_repr (told_sw hk hc h).1 (by decide) (by decide)
end Zd
namespace Zd
open PySem PySem.Spec PyProof.Rows L2 Zg
theorem st_loreW {n w : Ki} {cs : List Str} {ps : List Dat} {v : Int} (h : St 8 (.tup ps)) : St 10 (loreW n w cs ps v) := st_dic fun d hd => by
  have st6 : ∀ d, d ∈ ([.int v, kP n, kP w, tupS cs, .tup ps, worldO n w cs ps] : List Dat) → St 9 d := fun d hd => by
    rcases List.mem_cons.mp hd with hd | hd
    · rw [hd]; exact st_int
    · rcases List.mem_cons.mp hd with hd | hd
      · rw [hd]; exact st_kP
      · exact st_all4 (P := St 9) st_kP (st_strs.up (k := 2) (by decide)) (h.up (by decide)) (st_world h) d hd
  exact st6 d hd
section
variable {ℓ : Nat} {S : List Dat}
theorem w_worldP {k : Nat} {C : Dat → List Dat → Prop} (nl : noLocs S = true) (h : Pot ℓ (k + 284) S) (q : ∀ n w cs ps v S', KdD n w → NmS cs → Pgms cs ps → Pot ℓ k S' → noLocs S' = true → FrS ℓ S S' → C (loreW n w cs ps v) S') : wp (callP L__law_world [.loc ℓ, most3]) S C := by
  refine wp_callP nl h (k := k) (w_world h fun n w cs ps v mm S' K hc P hm lm hp hf => ⟨hp, hf, loreW n w cs ps v, ?_, fun S2 hp2 nl2 f2 => q n w cs ps v S2 K hc P hp2 nl2 f2⟩)
  have st := st_loreW (n := n) (w := w) (cs := cs) (v := v) P.st
  unfold frzN
  dsimp only
  rw [decide_eq_true lm]
  dsimp only
  rw [hm]
  exact frzN_of 39 _ st.1 _ (st.2 S' 39 (by decide))
end
section
variable {S : List Dat} {n w n2 w2 : Ki} {cs cs2 : List Str} {ps ps2 : List Dat}
theorem eqD_gen {d e : Dat} {a b c f : Nat} (h : SwB a b d) (k : SwB c f e) (la : a ≤ 60) (lc : c ≤ 60) : ∃ x : Bool, dEqD false d e S = .ok (.bl x) S ∧ (x = true ↔ d = e) := by
  by_cases q : d = e
  · subst q
    exact ⟨true, eqD_same h.py (by omega), by simp⟩
  · exact ⟨false, eqD_ne (k := 60) (h.py.le (by omega)) (k.py.le (by omega)) (by decide) h.2 k.2 q, by simp [q]⟩
theorem weq {a b c d : Nat} (h1 : NmS cs) (h2 : NmS cs2) (h3 : SwB a b (.tup ps)) (h4 : SwB c d (.tup ps2)) (la : a ≤ 60) (lc : c ≤ 60) : ∃ x : Bool, L_World___eq__ [worldO n w cs ps, worldO n2 w2 cs2 ps2] S = .ok (.bl x) S ∧ (x = true ↔ n = n2 ∧ w = w2 ∧ tupS cs = tupS cs2 ∧ Dat.tup ps = Dat.tup ps2) := by
  obtain ⟨x1, e1, i1⟩ := eqD_gen (S := S) (sw_names h1.l3 h1.n) (sw_names h2.l3 h2.n) (by decide) (by decide)
  obtain ⟨x2, e2, i2⟩ := eqD_gen (S := S) h3 h4 la lc
  have k1 : xOp (dOwn2 "Kind" L_Kind___eq__) (xUn (dFldI "World" "narrow") (xVar 0)) (xUn (dFldI "World" "narrow") (xVar 1)) [some (worldO n w cs ps), some (worldO n2 w2 cs2 ps2)] S = .ok (.bl (decide (n.1 = n2.1) && decide (n.2 = n2.2))) S := op_at (x := kindO n) (y := kindO n2) rfl rfl (own_at keq)
  have k2 : xOp (dOwn2 "Kind" L_Kind___eq__) (xUn (dFldI "World" "wide") (xVar 0)) (xUn (dFldI "World" "wide") (xVar 1)) [some (worldO n w cs ps), some (worldO n2 w2 cs2 ps2)] S = .ok (.bl (decide (w.1 = w2.1) && decide (w.2 = w2.2))) S := op_at (x := kindO w) (y := kindO w2) rfl rfl (own_at keq)
  have k3 : xOp (dEqD false) (xUn (dFldI "World" "columns") (xVar 0)) (xUn (dFldI "World" "columns") (xVar 1)) [some (worldO n w cs ps), some (worldO n2 w2 cs2 ps2)] S = .ok (.bl x1) S := op_at (x := tupS cs) (y := tupS cs2) rfl rfl e1
  have k4 : xOp (dEqD false) (xUn (dFldI "World" "programs") (xVar 0)) (xUn (dFldI "World" "programs") (xVar 1)) [some (worldO n w cs ps), some (worldO n2 w2 cs2 ps2)] S = .ok (.bl x2) S := op_at (x := .tup ps) (y := .tup ps2) rfl rfl e2
  refine ⟨_, run_at (ret_at (and_b (x := true) rfl (and_b k1 (and_b k2 (and_b k3 k4))))), ?_⟩
  obtain ⟨a1, a2⟩ := n
  obtain ⟨b1, b2⟩ := n2
  obtain ⟨c1, c2⟩ := w
  obtain ⟨d1, d2⟩ := w2
  simp only [Bool.true_and, Bool.and_eq_true, decide_eq_true_eq, i1, i2, Prod.mk.injEq]
theorem ownA_at {x : Bool} (h : L_World___eq__ [worldO n w cs ps, worldO n2 w2 cs2 ps2] S = .ok (.bl x) S) : dOwnA "World" ["Kind"] L_World___eq__ (worldO n w cs ps) (worldO n2 w2 cs2 ps2) S = .ok (.bl x) S := by
  show calm (L_World___eq__ [worldO n w cs ps, worldO n2 w2 cs2 ps2]) S = _
  exact calm_at h
end
end Zd
namespace Zd
open PySem PySem.Spec PyProof.Rows L2 Zg
theorem insS_sub (x : Str) : ∀ l : List Str, l.Sublist (insS x l)
  | [] => .cons _ .slnil
  | y :: r => by
    unfold insS
    split
    · exact (insS_sub x r).cons₂ y
    · exact (List.Sublist.refl _).cons x
theorem up_le {l : List Str} (h : l.Pairwise ltN) : l.Pairwise leS := h.imp fun k => List.lt_asymm k
theorem sort_snoc {cs : List Str} {x : Str} (h : cs.Pairwise ltN) : sortS (cs ++ [x]) = insS x cs :=
  perm_eq ((sortS_perm _).trans ((List.perm_append_comm).trans (insS_perm x cs).symm)) (sortS_sorted _) (insS_sorted x cs (up_le h))
theorem Rows.mono {P : Str → Dat → Prop} {cs cs2 : List Str} {ds : List Dat} (h : Rows P cs ds) (s : cs.Sublist cs2) : Rows P cs2 ds := ⟨fun d hd => (h.at_ d hd).elim fun c k => ⟨c, s.mem k.1, k.2⟩, h.fs.elim fun ss k => ⟨ss, k.1.trans s, k.2⟩⟩
theorem EdnD.mono {f : Bool} {cs cs2 : List Str} {d : Dat} (h : EdnD f cs d) (s : cs.Sublist cs2) : EdnD f cs2 d := by
  obtain ⟨sight, rs, ws, e, E⟩ := h
  exact ⟨sight, rs, ws, e, E.s, E.r.mono s, E.w.mono s⟩
theorem PgmD.mono {cs cs2 : List Str} {d : Dat} (h : PgmD cs d) (s : cs.Sublist cs2) : PgmD cs2 d := by
  obtain ⟨name, eds, e, E⟩ := h
  exact ⟨name, eds, e, E.n, E.l1, E.l3, fun e he => (E.all e he).elim fun f k => ⟨f, k.mono s⟩, fun e r q => (E.one e r q).mono s⟩
theorem Pgms.mono {cs cs2 : List Str} {ps : List Dat} (h : Pgms cs ps) (s : cs.Sublist cs2) : Pgms cs2 ps := ⟨fun p hp => (h.all p hp).mono s, h.fs, h.two⟩
theorem nmS_more {cs : List Str} {x : Str} (h : NmS cs) (hx : IsNm x) (nx : x ∉ cs) (l : cs.length < 3) : NmS (sortS (cs ++ [x])) ∧ cs.Sublist (sortS (cs ++ [x])) ∧ (sortS (cs ++ [x])).length = cs.length + 1 := by
  have nd : (cs ++ [x]).Nodup := by
    rw [List.nodup_append]
    refine ⟨?_, by simp, fun a ha b hb e => ?_⟩
    · rw [List.nodup_iff_pairwise_ne]
      exact h.up.imp fun k e => by subst e; exact List.lt_irrefl _ k
    · rw [List.mem_singleton.mp hb] at e
      rw [e] at ha
      exact nx ha
  refine ⟨nmS_sort nd (fun s hs => ?_) (by simp) (by simp; omega), by rw [sort_snoc h.up]; exact insS_sub x cs, by rw [(sortS_perm _).length_eq]; simp⟩
  rcases List.mem_append.mp hs with hs | hs
  · exact h.n s hs
  · rw [List.mem_singleton.mp hs]; exact hx
section
variable {S : List Dat}
def lrow (d : Dat) : Prop := ∃ x how r, how ∈ howsL ∧ d = .tup (x :: .str how :: r)
def edL (e : Dat) : Prop := ∃ s r ws, e = .tup [s, r, .tup ws] ∧ ws.length ≤ 1000 ∧ ∀ d, d ∈ ws → lrow d
def pgL (p : Dat) : Prop := ∃ s eds, p = .tup [s, .tup eds] ∧ ∀ e, e ∈ eds → edL e
abbrev lateC : Env → M Bool := bTest (xOp dEq (jSl dCutX (xOp dIxT (xVar 5) (xC (.int 1))) (oSome (xUn dNeg (xC (.int 5)))) oNone) (xC (.str "first")))
theorem cut_at (S : List Dat) : (howsL.map fun h => dCutX (.str h) (some (-5)) none S) = howsL.map fun h => .ok (.str (cutS h (some (-5)) none)) S := by kernel_rfl
theorem cut_is : ∀ h, h ∈ howsL → decide (cutS h (some (-5)) none = "first") = isS (.str h) ["narrow first", "wide first"] := by decide +kernel
theorem lateC_at {a b c d e : Option Dat} {x : Dat} {how : Str} {r : List Dat} (h : how ∈ howsL) : lateC [a, b, c, d, e, some (.tup (x :: .str how :: r))] S = .ok (lateR (.tup (x :: .str how :: r))) S := by
  refine test_at (op_at (x := .str (cutS how (some (-5)) none)) (y := .str "first") ?_ rfl ?_)
  · have e1 : xOp dIxT (xVar 5) (xC (.int 1)) [a, b, c, d, e, some (.tup (x :: .str how :: r))] S = .ok (.str how) S := op_at (x := .tup (x :: .str how :: r)) (y := .int 1) rfl rfl (by
      show M.opt (atI (x :: .str how :: r) 1) S = _
      rw [at_one] <;> rfl)
    unfold jSl
    rw [m_bind, e1]
    exact map_eq (cut_at S) how h
  · rw [eqS_at, cut_is how h] <;> rfl
def F1 (d : Dat) : Option Dat := if lateR d = true then some (.int 1) else none
theorem F1_len : ∀ ws : List Dat, (ws.filterMap F1).length = (ws.filter lateR).length
  | [] => rfl
  | d :: ws => by
    by_cases q : lateR d = true
    · rw [List.filterMap_cons_some (b := .int 1) (by unfold F1; rw [if_pos q]), List.filter_cons_of_pos q, List.length_cons, List.length_cons, F1_len ws]
    · rw [List.filterMap_cons_none (by unfold F1; rw [if_neg q]), List.filter_cons_of_neg q, F1_len ws]
abbrev lateB : Env → M Flow := sAsg (xOp dAdd (xVar 1) (xCB dLen (xCons (xLc (iTp (xOp dIxT (xVar 4) (xC (.int 2)))) (gN 5) lateC (xC (.int 1)) [5]) xNil))) (gN 1)
theorem lateB_at {a b c f : Option Dat} {n : Int} {e : Dat} (h : edL e) : lateB [a, some (.int n), b, c, some e, f] S = .ok (.nx [a, some (.int (n + cntE e)), b, c, some e, f]) S := by
  obtain ⟨s, r, ws, rfl, l, hw⟩ := h
  refine asg_at (d := .int (n + (ws.filter lateR).length)) (op_at (x := .int n) (y := .int (ws.filter lateR).length) rfl (cb_at (S1 := S) (ds := [.lst (ws.filterMap F1)]) (one_at ?_) ?_) rfl) rfl
  · refine xlc_at (ds := ws) rfl (by omega) ?_
    refine comp_fmG fun d hd => ?_
    obtain ⟨x, how, r', hh, rfl⟩ := hw d hd
    refine ⟨_, rfl, ?_, fun y hy => ?_⟩
    · refine (lateC_at hh).trans ?_
      unfold F1
      cases lateR (.tup (x :: .str how :: r')) <;> rfl
    · unfold F1 at hy
      split at hy
      · cases hy; rfl
      · cases hy
  · show Out.ok (Dat.int ((ws.filterMap F1).length : Int)) S = _
    rw [F1_len]
theorem late_in : ∀ {eds : List Dat} {a b c d f : Option Dat} {n : Int}, (∀ x, x ∈ eds → edL x) →
    ∃ d', forD (gN 4) lateB eds [a, some (.int n), b, c, d, f] S = .ok (.nx [a, some (.int (n + (eds.map cntE).sum)), b, c, d', f]) S
  | [], a, b, c, d, f, n, _ => ⟨d, by
    show Out.ok (Flow.nx _) S = _
    rw [show n + (((([] : List Dat).map cntE).sum : Nat) : Int) = n by simp]⟩
  | x :: eds, a, b, c, d, f, n, h => by
    obtain ⟨d', k⟩ := late_in (eds := eds) (a := a) (b := b) (c := c) (d := some x) (f := f) (n := n + cntE x) fun y hy => h y (List.mem_cons_of_mem _ hy)
    refine ⟨d', ?_⟩
    unfold forD
    show ((lateB [a, some (.int n), b, c, some x, f] >>= fun g => match g with | .nx ρ2 => forD _ lateB eds ρ2 | .ct ρ2 => forD _ lateB eds ρ2 | .bk ρ2 => pure (.nx ρ2) | .rt d => pure (.rt d)) : M Flow) S = _
    rw [m_bind, lateB_at (h x List.mem_cons_self)]
    rw [show n + ((((x :: eds).map cntE).sum : Nat) : Int) = n + cntE x + ((eds.map cntE).sum : Nat) by
      rw [List.map_cons, List.sum_cons]
      omega]
    exact k
abbrev lateP : Env → M Flow := sFor (iTp (xVar 3)) (gN 4) lateB
theorem late_out : ∀ {ps : List Dat} {a b c d f : Option Dat} {n : Int}, (∀ x, x ∈ ps → pgL x) →
    ∃ b' c' d', forD (gT 2 (gCo (gN 2) (gCo (gN 3) gNl))) lateP ps [a, some (.int n), b, c, d, f] S = .ok (.nx [a, some (.int (n + (ps.map cntP).sum)), b', c', d', f]) S
  | [], a, b, c, d, f, n, _ => ⟨b, c, d, by
    show Out.ok (Flow.nx _) S = _
    rw [show n + (((([] : List Dat).map cntP).sum : Nat) : Int) = n by simp]⟩
  | x :: ps, a, b, c, d, f, n, h => by
    obtain ⟨s, eds, rfl, hw⟩ := h x List.mem_cons_self
    obtain ⟨d1, k1⟩ := late_in (S := S) (eds := eds) (a := a) (b := some s) (c := some (.tup eds)) (d := d) (f := f) (n := n) hw
    obtain ⟨b', c', d', k⟩ := late_out (ps := ps) (a := a) (b := some s) (c := some (.tup eds)) (d := d1) (f := f) (n := n + (eds.map cntE).sum) fun y hy => h y (List.mem_cons_of_mem _ hy)
    refine ⟨b', c', d', ?_⟩
    unfold forD
    show ((lateP [a, some (.int n), some s, some (.tup eds), d, f] >>= fun g => match g with | .nx ρ2 => forD _ lateP ps ρ2 | .ct ρ2 => forD _ lateP ps ρ2 | .bk ρ2 => pure (.nx ρ2) | .rt d => pure (.rt d)) : M Flow) S = _
    have km : lateP [a, some (.int n), some s, some (.tup eds), d, f] S = _ := sfor_at (ds := eds) rfl k1
    rw [m_bind, km]
    rw [show n + ((((Dat.tup [s, .tup eds] :: ps).map cntP).sum : Nat) : Int) = n + (eds.map cntE).sum + ((ps.map cntP).sum : Nat) by
      rw [List.map_cons, List.sum_cons]
      show n + ((((eds.map cntE).sum + (ps.map cntP).sum : Nat)) : Int) = _
      omega]
    exact k
theorem late_ok {ps : List Dat} (h : ∀ x, x ∈ ps → pgL x) : L__law_late [.tup ps] S = .ok (.int (ps.map cntP).sum) S := by
  refine run_at ?_
  rw [seq_at (ρ' := [some (.tup ps), some (.int 0), none, none, none, none]) (S' := S) rfl]
  obtain ⟨b', c', d', k⟩ := late_out (S := S) (ps := ps) (a := some (.tup ps)) (b := none) (c := none) (d := none) (f := none) (n := 0) h
  rw [seq_at (S' := S) (sfor_at (ds := ps) rfl k)]
  rw [show (0 : Int) + ((ps.map cntP).sum : Nat) = ((ps.map cntP).sum : Nat) by omega]
  rfl
theorem EdnD.late {first : Bool} {cs : List Str} {d : Dat} (hc : NmS cs) (h : EdnD first cs d) : edL d := by
  obtain ⟨sight, rs, ws, rfl, E⟩ := h
  have ls := hc.l3
  have lw := E.w.len
  refine ⟨_, _, ws, rfl, by omega, fun d hd => ?_⟩
  obtain ⟨c, _, how, rule, src, pace, k, _, _, _, _, rfl⟩ := E.w.at_ d hd
  exact ⟨_, how, _, k, rfl⟩
theorem PgmD.late {cs : List Str} {d : Dat} (hc : NmS cs) (h : PgmD cs d) : pgL d := by
  obtain ⟨name, eds, rfl, E⟩ := h
  exact ⟨_, eds, rfl, fun x hx => (E.all x hx).elim fun f k => k.late hc⟩
end
end Zd
namespace Zd
open PySem PySem.Spec PyProof.Rows L2 Zg
theorem few_last {ps : List Dat} (h1 : 1 ≤ ps.length) (h3 : ps.length ≤ 3) : ∃ i p, ps = i ++ [p] ∧ i.length ≤ 2 ∧ ∀ S, dIxT (.tup ps) (.int (-1)) S = .ok p S ∧ dCutT (.tup ps) none (some (-1)) S = .ok (.tup i) S := by
  match ps, h1, h3 with
  | [a], _, _ => exact ⟨[], a, rfl, by decide, fun S => ⟨rfl, rfl⟩⟩
  | [a, b], _, _ => exact ⟨[a], b, rfl, by simp, fun S => ⟨rfl, rfl⟩⟩
  | [a, b, c], _, _ => exact ⟨[a, b], c, rfl, by simp, fun S => ⟨rfl, rfl⟩⟩
theorem few_head {ps : List Dat} (h1 : 1 ≤ ps.length) (h3 : ps.length ≤ 3) : ∃ p r, ps = p :: r ∧ r.length ≤ 2 ∧ ∀ S, dIxT (.tup ps) (.int 0) S = .ok p S ∧ dCutT (.tup ps) (some 1) none S = .ok (.tup r) S := by
  match ps, h1, h3 with
  | [a], _, _ => exact ⟨a, [], rfl, by decide, fun S => ⟨rfl, rfl⟩⟩
  | [a, b], _, _ => exact ⟨a, [b], rfl, by simp, fun S => ⟨rfl, rfl⟩⟩
  | [a, b, c], _, _ => exact ⟨a, [b, c], rfl, by simp, fun S => ⟨rfl, rfl⟩⟩
theorem few_rep {es : List Dat} (h1 : 1 ≤ es.length) (h3 : es.length ≤ 3) : ∀ S, dRepB (.tup es) (.int 2) S = .ok (.tup (es ++ es)) S := by
  match es, h1, h3 with
  | [a], _, _ => exact fun S => rfl
  | [a, b], _, _ => exact fun S => rfl
  | [a, b, c], _, _ => exact fun S => rfl
structure Oth (n w : Ki) (cs : List Str) (ps : List Dat) (n2 w2 : Ki) (cs2 : List Str) (ps2 : List Dat) : Prop where
  k : Kd n2 w2
  c : NmS cs2
  l3 : ps2.length ≤ 3
  pl : ∀ p, p ∈ ps2 → pgL p
  sh : ∀ p, p ∈ ps2 → ∃ s eds, p = .tup [s, .tup eds] ∧ eds.length ≤ 6
  ok : (∀ p, p ∈ ps2 → ∀ s eds, p = .tup [s, .tup eds] → eds.length < 4) → (ps2.map cntP).sum ≤ 2 → Pgms cs2 ps2
  ne : ¬ (n2 = n ∧ w2 = w ∧ tupS cs2 = tupS cs ∧ Dat.tup ps2 = Dat.tup ps)
  st : St 8 (.tup ps2)
def OthD (n w : Ki) (cs : List Str) (ps : List Dat) (d : Dat) : Prop := ∃ n2 w2 cs2 ps2, d = parts n2 w2 cs2 ps2 ∧ Oth n w cs ps n2 w2 cs2 ps2
theorem OthD.st {n w : Ki} {cs : List Str} {ps : List Dat} {d : Dat} (h : OthD n w cs ps d) : St 9 d := by
  obtain ⟨n2, w2, cs2, ps2, rfl, o⟩ := h
  exact st_tup (st_all4 (P := St 8) st_kP st_kP (st_strs.up (k := 2) (by decide)) o.st)
section
variable {n w : Ki} {cs : List Str} {ps : List Dat}
theorem Pgms.sh {cs : List Str} {ps : List Dat} (h : Pgms cs ps) : ∀ p, p ∈ ps → ∃ s eds, p = .tup [s, .tup eds] ∧ eds.length ≤ 6 := fun p hp => by
  obtain ⟨name, eds, rfl, E⟩ := h.all p hp
  exact ⟨_, eds, rfl, by have := E.l3; omega⟩
/-- the same programs -/
theorem oth_same {n2 w2 : Ki} {cs2 : List Str} (h : Pgms cs ps) (hc : NmS cs) (k : Kd n2 w2) (c : NmS cs2) (s : cs.Sublist cs2) (ne : ¬ (n2 = n ∧ w2 = w ∧ tupS cs2 = tupS cs)) : Oth n w cs ps n2 w2 cs2 ps :=
  ⟨k, c, h.len.2, fun p hp => (h.all p hp).late hc, h.sh, fun _ _ => h.mono s, fun z => ne ⟨z.1, z.2.1, z.2.2.1⟩, h.st⟩
theorem oth1 (h : Pgms cs ps) (hc : NmS cs) (K : KdD n w) : OthD n w cs ps (parts n (w.1, w.2 + 1) cs ps) := ⟨_, _, _, _, rfl, oth_same h hc ⟨K.a, K.b, K.c, K.d, by have := K.e; show n.2 + 16 ≤ w.2 + 1; omega, K.f, by have := K.g2; show w.2 + 1 < _; omega⟩ hc (List.Sublist.refl _) fun z => by
  have := congrArg Prod.snd z.2.1
  dsimp only at this
  omega⟩
theorem oth2 (h : Pgms cs ps) (hc : NmS cs) (K : KdD n w) : OthD n w cs ps (parts n (w.1 - 1, w.2) cs ps) := ⟨_, _, _, _, rfl, oth_same h hc ⟨K.a, K.b, K.c, by have := K.d; show w.1 - 1 ≤ n.1; omega, K.e, by have := K.f2; show _ < w.1 - 1; omega, K.g⟩ hc (List.Sublist.refl _) fun z => by
  have := congrArg Prod.fst z.2.1
  dsimp only at this
  omega⟩
theorem oth3 (h : Pgms cs ps) (hc : NmS cs) (K : KdD n w) (c1 : n.2 - n.1 > 15) (c2 : n.2 > 0) : OthD n w cs ps (parts (n.1, n.2 - 1) w cs ps) := ⟨_, _, _, _, rfl, oth_same h hc ⟨K.a, by show 0 ≤ n.2 - 1; omega, by show 15 ≤ n.2 - 1 - n.1; omega, K.d, by have := K.e; show n.2 - 1 + 16 ≤ w.2; omega, K.f, K.g⟩ hc (List.Sublist.refl _) fun z => by
  have := congrArg Prod.snd z.1
  dsimp only at this
  omega⟩
theorem tupS_len {a b : List Str} (h : tupS a = tupS b) : a.length = b.length := by
  unfold tupS at h
  injection h with h
  have := congrArg List.length h
  rw [List.length_map, List.length_map] at this
  exact this
theorem oth6 (h : Pgms cs ps) (hc : NmS cs) (K : KdD n w) {x : Str} (hx : IsNm x) (nx : x ∉ cs) (l : cs.length < 3) : OthD n w cs ps (parts n w (sortS (cs ++ [x])) ps) := by
  obtain ⟨h1, h2, h3⟩ := nmS_more hc hx nx l
  exact ⟨_, _, _, _, rfl, oth_same h hc K.toKd h1 h2 fun z => by
    have := tupS_len z.2.2
    omega⟩
/-- the last program's editions twice -/
theorem oth4 {i : List Dat} {name : Str} {eds : List Dat} (h : Pgms cs (i ++ [.tup [.str name, .tup eds]])) (hc : NmS cs) (K : KdD n w) : OthD n w cs (i ++ [.tup [.str name, .tup eds]]) (parts n w cs (i ++ [.tup [.str name, .tup (eds ++ eds)]])) := by
  obtain ⟨nm2, eds2, e2, E⟩ := h.all _ (List.mem_append_right _ (List.mem_singleton.mpr rfl))
  injection e2 with e2
  injection e2 with e3 e4
  injection e3 with e3
  injection e4 with e4 _
  injection e4 with e4
  subst e3
  subst e4
  have len := h.len
  rw [List.length_append] at len
  have mem : ∀ p, p ∈ i ++ [Dat.tup [.str name, .tup (eds ++ eds)]] → p ∈ i ∨ p = .tup [.str name, .tup (eds ++ eds)] := fun p hp => by
    rcases List.mem_append.mp hp with hp | hp
    · exact .inl hp
    · exact .inr (List.mem_singleton.mp hp)
  have old : ∀ p, p ∈ i → PgmD cs p := fun p hp => h.all p (List.mem_append_left _ hp)
  have e12 : ∀ e, e ∈ eds ++ eds → ∃ f, EdnD f cs e := fun e he => by
    rcases List.mem_append.mp he with he | he
    · exact E.all e he
    · exact E.all e he
  refine ⟨n, w, cs, _, rfl, K.toKd, hc, by rw [List.length_append]; exact len.2, fun p hp => ?_, fun p hp => ?_, fun l4 two => ⟨fun p hp => ?_, ?_, two⟩, fun z => ?_, ?_⟩
  · rcases mem p hp with hp | rfl
    · exact (old p hp).late hc
    · exact ⟨_, _, rfl, fun e he => (e12 e he).elim fun f k => k.late hc⟩
  · rcases mem p hp with hp | rfl
    · exact h.sh p (List.mem_append_left _ hp)
    · exact ⟨_, _, rfl, by rw [List.length_append]; have := E.l3; omega⟩
  · rcases mem p hp with hp | rfl
    · exact old p hp
    · have l := l4 _ (List.mem_append_right _ (List.mem_singleton.mpr rfl)) _ _ rfl
      refine ⟨name, eds ++ eds, rfl, E.n, by rw [List.length_append]; have := E.l1; omega, by omega, e12, fun e r q => ?_⟩
      match eds, E, q with
      | a :: as, E, q =>
        injection q with q _
        subst q
        exact E.one a as rfl
      | [], E, q => exact absurd q (by simp)
  · obtain ⟨ss, hs, ef⟩ := h.fs
    exact ⟨ss, hs, by rw [← ef, List.map_append, List.map_append] <;> rfl⟩
  · have z := z.2.2.2
    injection z with z
    have z := List.append_cancel_left z
    injection z with z _
    injection z with z
    injection z with _ z
    injection z with z _
    injection z with z
    have := congrArg List.length z
    rw [List.length_append] at this
    have := E.l1
    omega
  · refine st_tup fun p hp => ?_
    rcases mem p hp with hp | rfl
    · exact (old p hp).st
    · exact st_tup (st_all2 st_str (st_tup fun d h => (e12 d h).elim fun f k => k.st))
/-- the first program's first edition of another sight -/
theorem oth5 {name s1 s2 : Str} {rs ws er pr : List Dat} (h : Pgms cs (.tup [.str name, .tup (.tup [.str s1, .tup rs, .tup ws] :: er)] :: pr)) (hc : NmS cs) (K : KdD n w) (hs : s2 ∈ (["narrow", "wide"] : List Str)) (ne : s2 ≠ s1) : OthD n w cs (.tup [.str name, .tup (.tup [.str s1, .tup rs, .tup ws] :: er)] :: pr) (parts n w cs (.tup [.str name, .tup (.tup [.str s2, .tup rs, .tup ws] :: er)] :: pr)) := by
  have P : Pgms cs (.tup [.str name, .tup (.tup [.str s2, .tup rs, .tup ws] :: er)] :: pr) := by
    obtain ⟨nm2, eds2, e2, E⟩ := h.all _ List.mem_cons_self
    injection e2 with e2
    injection e2 with e3 e4
    injection e3 with e3
    injection e4 with e4 _
    injection e4 with e4
    subst e3
    subst e4
    have turn : ∀ f, EdnD f cs (.tup [.str s1, .tup rs, .tup ws]) → EdnD f cs (.tup [.str s2, .tup rs, .tup ws]) := fun f k => by
      obtain ⟨s, r, w', e, X⟩ := k
      injection e with e
      injection e with _ e
      injection e with e5 e
      injection e with e6 _
      injection e5 with e5
      injection e6 with e6
      subst e5
      subst e6
      exact ⟨s2, rs, ws, rfl, hs, X.r, X.w⟩
    refine ⟨fun p hp => ?_, ?_, h.two⟩
    · rcases List.mem_cons.mp hp with hp | hp
      · subst hp
        refine ⟨name, _, rfl, E.n, E.l1, E.l3, fun e he => ?_, fun e r q => ?_⟩
        · rcases List.mem_cons.mp he with he | he
          · subst he
            obtain ⟨f, k⟩ := E.all _ List.mem_cons_self
            exact ⟨f, turn f k⟩
          · exact E.all e (List.mem_cons_of_mem _ he)
        · injection q with q _
          subst q
          exact turn true (E.one _ _ rfl)
      · exact h.all p (List.mem_cons_of_mem _ hp)
    · obtain ⟨ss, hs, ef⟩ := h.fs
      exact ⟨ss, hs, ef⟩
  refine ⟨n, w, cs, _, rfl, K.toKd, hc, P.len.2, fun p hp => (P.all p hp).late hc, P.sh, fun _ _ => P, fun z => ?_, P.st⟩
  have z := z.2.2.2
  injection z with z
  injection z with z _
  injection z with z
  injection z with _ z
  injection z with z _
  injection z with z
  injection z with z _
  injection z with z
  injection z with z _
  injection z with z
  exact ne z
end
end Zd
namespace Zd
open PySem PySem.Spec PyProof.Rows L2 Zg
theorem set_last {S : List Dat} {x y : Dat} : (S ++ [x]).set S.length y = S ++ [y] := by
  rw [List.set_append_right _ _ (Nat.le_refl _), Nat.sub_self] <;> rfl
theorem appL {o : Env → M Dat} {l : Env → M (List Dat)} {ρ : Env} {S : List Dat} {xs : List Dat} {x : Dat} (ho : o ρ (S ++ [.lst xs]) = .ok (.loc S.length) (S ++ [.lst xs])) (hl : l ρ (S ++ [.lst xs]) = .ok [x] (S ++ [.lst xs])) (lt : xs.length < 100000) : sAppLo o l ρ (S ++ [.lst xs]) = .ok (.nx ρ) (S ++ [.lst (xs ++ [x])]) := by
  have e := app_at (S := S ++ [.lst xs]) (n := S.length) ho (by rw [List.getElem?_append_right (Nat.le_refl _), Nat.sub_self] <;> rfl) hl lt
  rw [set_last] at e
  exact e
theorem in_any {S : List Dat} {neg : Bool} {c : Str} {cs : List Str} : dInS neg (.str c) (tupS cs) S = .ok (.bl (neg != isS (.str c) cs)) S := by
  unfold dInS
  have e : ((itemsOf (tupS cs)).bind strsD) = some cs := strsD_map cs
  rw [e] <;> rfl
def spareL : List Str := ["aaaaaaaa", "bbbbbbbb", "zzzzzzzz"]
abbrev spareT : Env → M Dat := xLc (iStrM (xC (.str "abz"))) (gN 17) bYes (xOp dMulS (xVar 17) (xC (.int 8))) [17]
theorem spare_at {S : List Dat} {a0 a1 a2 a3 a4 a5 a6 a7 a8 a9 a10 a11 a12 a13 a14 a15 a16 a17 : Option Dat} : spareT [a0, a1, a2, a3, a4, a5, a6, a7, a8, a9, a10, a11, a12, a13, a14, a15, a16, a17] S = .ok (lstS spareL) S := by kernel_rfl
theorem spare_nm : ∀ s, s ∈ spareL → IsNm s := by
  have k : ∀ s, s ∈ spareL → (∀ c, c ∈ s.cps.toList → 97 ≤ c ∧ c < 123) ∧ 1 ≤ s.cps.toList.length ∧ s.cps.toList.length ≤ 8 := by decide +kernel
  exact fun s h => ⟨(k s h).1, (k s h).2.1, (k s h).2.2⟩
abbrev moreT : Env → M Dat := jSl dCutL (xLc (iLst (xVar 9)) (gN 17) (bTest (xOp (dInS true) (xVar 17) (xVar 3))) (xVar 17) [17]) oNone (oSome (xC (.int 1)))
theorem filter_head {p : Str → Bool} {l : List Str} (h : ∃ x, x ∈ l ∧ p x = true) : ∃ x r, l.filter p = x :: r ∧ x ∈ l ∧ p x = true := by
  obtain ⟨x, hx, px⟩ := h
  have m : x ∈ l.filter p := List.mem_filter.mpr ⟨hx, px⟩
  match e : l.filter p, m with
  | y :: r, _ =>
    have my : y ∈ l.filter p := by rw [e]; exact List.mem_cons_self
    exact ⟨y, r, rfl, (List.mem_filter.mp my).1, (List.mem_filter.mp my).2⟩
theorem notIn_is {c : Str} {cs : List Str} : (true != isS (.str c) cs) = true ↔ c ∉ cs := by
  have e : isS (.str c) cs = cs.any fun z => z == c := rfl
  rw [e]
  constructor
  · intro h m
    have : (cs.any fun z => z == c) = true := List.any_eq_true.mpr ⟨c, m, beq_self_eq_true c⟩
    rw [this] at h
    cases h
  · intro h
    have : (cs.any fun z => z == c) = false := by
      rw [List.any_eq_false]
      intro x m k
      rw [beq_iff_eq] at k
      rw [k] at m
      exact h m
    rw [this] <;> rfl
theorem more_at {S : List Dat} {cs : List Str} (l : cs.length < 3) {a0 a1 a2 a4 a5 a6 a7 a8 a10 a11 a12 a13 a14 a15 a16 a17 : Option Dat} :
    ∃ x, moreT [a0, a1, a2, some (tupS cs), a4, a5, a6, a7, a8, some (lstS spareL), a10, a11, a12, a13, a14, a15, a16, a17] S = .ok (lstS [x]) S ∧ x ∈ spareL ∧ x ∉ cs := by
  have ex : ∃ x, x ∈ spareL ∧ (true != isS (.str x) cs) = true := by
    refine Classical.byContradiction fun no => ?_
    have sub : ∀ x, x ∈ spareL → x ∈ cs := fun x hx => Classical.byContradiction fun nx => no ⟨x, hx, notIn_is.mpr nx⟩
    have x1 := sub "aaaaaaaa" (by decide +kernel)
    have x2 := sub "bbbbbbbb" (by decide +kernel)
    have x3 := sub "zzzzzzzz" (by decide +kernel)
    have n12 : ("aaaaaaaa" : Str) ≠ "bbbbbbbb" := by decide +kernel
    have n13 : ("aaaaaaaa" : Str) ≠ "zzzzzzzz" := by decide +kernel
    have n23 : ("bbbbbbbb" : Str) ≠ "zzzzzzzz" := by decide +kernel
    generalize ("aaaaaaaa" : Str) = u1 at x1 n12 n13
    generalize ("bbbbbbbb" : Str) = u2 at x2 n12 n23
    generalize ("zzzzzzzz" : Str) = u3 at x3 n13 n23
    match cs, l with
    | [], _ => cases x1
    | [a], _ =>
      rw [List.mem_singleton] at x1 x2
      exact n12 (x1.trans x2.symm)
    | [a, b], _ =>
      simp only [List.mem_cons, List.not_mem_nil, or_false] at x1 x2 x3
      rcases x1 with x1 | x1 <;> rcases x2 with x2 | x2 <;> rcases x3 with x3 | x3 <;> subst x1 <;> first | exact n12 x2.symm | exact n13 x3.symm | exact n23 (x2.trans x3.symm)
  obtain ⟨x, r, ef, hx, px⟩ := filter_head (p := fun x => true != isS (.str x) cs) ex
  refine ⟨x, ?_, hx, notIn_is.mp px⟩
  have hf := filt_at (S := S) (ρ := [a0, a1, a2, some (tupS cs), a4, a5, a6, a7, a8, some (lstS spareL), a10, a11, a12, a13, a14, a15, a16, none]) (t := fun d => match d with | .str s => true != isS (.str s) cs | _ => false) (i := 17) (c := bTest (xOp (dInS true) (xVar 17) (xVar 3))) (ds := spareL.map .str) (show 17 < 18 by decide) fun d hd => by
    obtain ⟨s, hs, rfl⟩ := List.mem_map.mp hd
    exact test_at (op_at (x := .str s) (y := tupS cs) rfl rfl in_any)
  have em : (spareL.map Dat.str).filter (fun d => match d with | .str s => true != isS (.str s) cs | _ => false) = (spareL.filter fun x => true != isS (.str x) cs).map .str := by
    rw [List.filter_map] <;> rfl
  rw [em, ef] at hf
  have e1 := xlc_at (S := S) (ρ := [a0, a1, a2, some (tupS cs), a4, a5, a6, a7, a8, some (lstS spareL), a10, a11, a12, a13, a14, a15, a16, a17]) (it := iLst (xVar 9)) (vs := [17]) (ds := spareL.map .str) rfl (by decide) hf
  unfold moreT jSl
  rw [m_bind, e1]
  have lr : (x :: r).length ≤ 3 := by
    rw [← ef]
    exact List.length_filter_le _ _
  match r, lr with
  | [], _ => rfl
  | [b], _ => rfl
  | [b, c], _ => rfl
end Zd
namespace Zd
open PySem PySem.Spec PyProof.Rows L2 Zg
theorem w_others {n w : Ki} {cs : List Str} {ps : List Dat} {v : Int} {S : List Dat} (h : Pgms cs ps) (hc : NmS cs) (K : KdD n w) : wp (L__law_others [loreW n w cs ps v]) S fun d S' => ∃ acc, d = .loc S.length ∧ S' = S ++ [.lst acc] ∧ (∀ d, d ∈ acc → OthD n w cs ps d) ∧ acc.length ≤ 6 := by
  have len := h.len
  obtain ⟨i, pl, ei, li, el⟩ := few_last len.1 len.2
  obtain ⟨nmZ, edZ, eZ, EZ⟩ := h.all pl (by rw [ei]; exact List.mem_append_right _ (List.mem_singleton.mpr rfl))
  obtain ⟨p0, pr, e0, lr, eh⟩ := few_head len.1 len.2
  obtain ⟨nmA, edA, eA, EA⟩ := h.all p0 (by rw [e0]; exact List.mem_cons_self)
  obtain ⟨ed, er, e1, ler, ee⟩ := few_head EA.l1 EA.l3
  obtain ⟨fA, sight, rs, ws, e2, XA⟩ := EA.all ed (by rw [e1]; exact List.mem_cons_self)
  refine wp_run ?_
  refine wp_seqA (ρ' := [some (loreW n w cs ps v), some (kP n), some (kP w), none, none, none, none, none, none, none, none, none, none, none, none, none, none, none]) (S1 := S) (by kernel_rfl) ?_
  refine wp_seqA (ρ' := [some (loreW n w cs ps v), some (kP n), some (kP w), some (tupS cs), some (.tup ps), none, none, none, none, none, none, none, none, none, none, none, none, none]) (S1 := S) (by kernel_rfl) ?_
  refine wp_seqA (ρ' := [some (loreW n w cs ps v), some (kP n), some (kP w), some (tupS cs), some (.tup ps), some (.loc S.length), none, none, none, none, none, none, none, none, none, none, none, none]) (S1 := S ++ [.lst [parts n (w.1, w.2 + 1) cs ps]]) (rfl) ?_
  refine wp_seqA (appL (x := parts n (w.1 - 1, w.2) cs ps) rfl rfl (by simp; try omega)) ?_
  have a2 : ∀ d, d ∈ [parts n (w.1, w.2 + 1) cs ps] ++ [parts n (w.1 - 1, w.2) cs ps] → OthD n w cs ps d := fun d hd => by
    rcases List.mem_append.mp hd with hd | hd
    · rw [List.mem_singleton.mp hd]; exact oth1 h hc K
    · rw [List.mem_singleton.mp hd]; exact oth2 h hc K
  have l2 : ([parts n (w.1, w.2 + 1) cs ps] ++ [parts n (w.1 - 1, w.2) cs ps]).length ≤ 2 := by simp
  generalize [parts n (w.1, w.2 + 1) cs ps] ++ [parts n (w.1 - 1, w.2) cs ps] = acc at a2 l2 ⊢
  have if3 : ∃ acc2, sIf (bAnd (bTest (xOp dGt (xOp dSub (xOp dIxT (xVar 1) (xC (.int 1))) (xOp dIxT (xVar 1) (xC (.int 0)))) (xC (.int 15)))) (bTest (xOp dGt (xOp dIxT (xVar 1) (xC (.int 1))) (xC (.int 0))))) (sAppLo (xVar 5) (xCons (xTup (xCons (xTup (xCons (xOp dIxT (xVar 1) (xC (.int 0))) (xCons (xOp dSub (xOp dIxT (xVar 1) (xC (.int 1))) (xC (.int 1))) xNil))) (xCons (xVar 2) (xCons (xVar 3) (xCons (xVar 4) xNil))))) xNil)) sNx [some (loreW n w cs ps v), some (kP n), some (kP w), some (tupS cs), some (.tup ps), some (.loc S.length), none, none, none, none, none, none, none, none, none, none, none, none] (S ++ [.lst acc]) = .ok (.nx [some (loreW n w cs ps v), some (kP n), some (kP w), some (tupS cs), some (.tup ps), some (.loc S.length), none, none, none, none, none, none, none, none, none, none, none, none]) (S ++ [.lst acc2]) ∧ (∀ d, d ∈ acc2 → OthD n w cs ps d) ∧ acc2.length ≤ 3 := by
    have t1 : bTest (xOp dGt (xOp dSub (xOp dIxT (xVar 1) (xC (.int 1))) (xOp dIxT (xVar 1) (xC (.int 0)))) (xC (.int 15))) [some (loreW n w cs ps v), some (kP n), some (kP w), some (tupS cs), some (.tup ps), some (.loc S.length), none, none, none, none, none, none, none, none, none, none, none, none] (S ++ [.lst acc]) = .ok (decide (15 < n.2 - n.1)) (S ++ [.lst acc]) := rfl
    have t2 : bTest (xOp dGt (xOp dIxT (xVar 1) (xC (.int 1))) (xC (.int 0))) [some (loreW n w cs ps v), some (kP n), some (kP w), some (tupS cs), some (.tup ps), some (.loc S.length), none, none, none, none, none, none, none, none, none, none, none, none] (S ++ [.lst acc]) = .ok (decide (0 < n.2)) (S ++ [.lst acc]) := rfl
    by_cases c1 : 15 < n.2 - n.1
    · rw [decide_eq_true c1] at t1
      by_cases c2 : 0 < n.2
      · rw [decide_eq_true c2] at t2
        refine ⟨acc ++ [parts (n.1, n.2 - 1) w cs ps], (if_t (band_t t1 t2)).trans (appL rfl rfl (by omega)), fun d hd => ?_, by rw [List.length_append]; simp; omega⟩
        rcases List.mem_append.mp hd with hd | hd
        · exact a2 d hd
        · rw [List.mem_singleton.mp hd]
          exact oth3 h hc K (by omega) (by omega)
      · rw [decide_eq_false c2] at t2
        exact ⟨acc, (if_f (band_t t1 t2)).trans rfl, a2, by omega⟩
    · rw [decide_eq_false c1] at t1
      exact ⟨acc, (if_f (band_f t1)).trans rfl, a2, by omega⟩
  clear a2 l2
  obtain ⟨acc, if3, a3, l3⟩ := if3
  refine wp_seqA if3 ?_
  clear if3
  have tw : sAsg (xTup (xCons (xOp dIxT (xOp dIxT (xVar 4) (xUn dNeg (xC (.int 1)))) (xC (.int 0))) (xCons (xOp dRepB (xOp dIxT (xOp dIxT (xVar 4) (xUn dNeg (xC (.int 1)))) (xC (.int 1))) (xC (.int 2))) xNil))) (gN 6) [some (loreW n w cs ps v), some (kP n), some (kP w), some (tupS cs), some (.tup ps), some (.loc S.length), none, none, none, none, none, none, none, none, none, none, none, none] (S ++ [.lst acc]) = .ok (.nx [some (loreW n w cs ps v), some (kP n), some (kP w), some (tupS cs), some (.tup ps), some (.loc S.length), some (.tup [.str nmZ, .tup (edZ ++ edZ)]), none, none, none, none, none, none, none, none, none, none, none]) (S ++ [.lst acc]) := by
    have x : xOp dIxT (xVar 4) (xUn dNeg (xC (.int 1))) [some (loreW n w cs ps v), some (kP n), some (kP w), some (tupS cs), some (.tup ps), some (.loc S.length), none, none, none, none, none, none, none, none, none, none, none, none] (S ++ [.lst acc]) = .ok pl (S ++ [.lst acc]) := op_at (x := .tup ps) (y := .int (-1)) rfl rfl (el _).1
    rw [eZ] at x
    refine asg_at (d := .tup [.str nmZ, .tup (edZ ++ edZ)]) (tupK_at (cons_at (op_at (x := .tup [.str nmZ, .tup edZ]) (y := .int 0) x rfl rfl) (cons_at (op_at (x := .tup edZ) (y := .int 2) (op_at (x := .tup [.str nmZ, .tup edZ]) (y := .int 1) x rfl rfl) rfl (few_rep EZ.l1 EZ.l3 _)) rfl)) (by simp)) rfl
  refine wp_seqA tw ?_
  clear tw
  have ct : xOp dCatT (jSl dCutT (xVar 4) oNone (oSome (xUn dNeg (xC (.int 1))))) (xTup (xCons (xVar 6) xNil)) [some (loreW n w cs ps v), some (kP n), some (kP w), some (tupS cs), some (.tup ps), some (.loc S.length), some (.tup [.str nmZ, .tup (edZ ++ edZ)]), none, none, none, none, none, none, none, none, none, none, none] (S ++ [.lst acc]) = .ok (.tup (i ++ [.tup [.str nmZ, .tup (edZ ++ edZ)]])) (S ++ [.lst acc]) := by
    refine op_at (x := .tup i) (y := .tup [.tup [.str nmZ, .tup (edZ ++ edZ)]]) (el _).2 rfl (catT_ok (by simp; omega))
  refine wp_seqA (appL (x := parts n w cs (i ++ [.tup [.str nmZ, .tup (edZ ++ edZ)]])) rfl (cons_at (tupK_at (cons_at (x := kP n) rfl (cons_at (x := kP w) rfl (cons_at (x := tupS cs) rfl (cons_at ct rfl)))) (by simp)) rfl) (by omega)) ?_
  clear ct
  have a4 : ∀ d, d ∈ acc ++ [parts n w cs (i ++ [.tup [.str nmZ, .tup (edZ ++ edZ)]])] → OthD n w cs ps d := fun d hd => by
    rcases List.mem_append.mp hd with hd | hd
    · exact a3 d hd
    · rw [List.mem_singleton.mp hd]
      have h2 := h
      rw [ei, eZ] at h2
      have o := oth4 h2 hc K
      rw [← eZ, ← ei] at o
      exact o
  have l4 : (acc ++ [parts n w cs (i ++ [.tup [.str nmZ, .tup (edZ ++ edZ)]])]).length ≤ 4 := by rw [List.length_append]; simp; omega
  generalize acc ++ [parts n w cs (i ++ [.tup [.str nmZ, .tup (edZ ++ edZ)]])] = acc at a4 l4 ⊢
  clear a3 l3
  have nm : sAsg (xTup (xCons (xOp dIxT (xVar 4) (xC (.int 0))) (xCons spareT xNil))) (gT 2 (gCo (gT 2 (gCo (gN 7) (gCo (gN 8) gNl))) (gCo (gN 9) gNl))) [some (loreW n w cs ps v), some (kP n), some (kP w), some (tupS cs), some (.tup ps), some (.loc S.length), some (.tup [.str nmZ, .tup (edZ ++ edZ)]), none, none, none, none, none, none, none, none, none, none, none] (S ++ [.lst acc]) = .ok (.nx [some (loreW n w cs ps v), some (kP n), some (kP w), some (tupS cs), some (.tup ps), some (.loc S.length), some (.tup [.str nmZ, .tup (edZ ++ edZ)]), some (.str nmA), some (.tup edA), some (lstS spareL), none, none, none, none, none, none, none, none]) (S ++ [.lst acc]) := by
    have x : xOp dIxT (xVar 4) (xC (.int 0)) [some (loreW n w cs ps v), some (kP n), some (kP w), some (tupS cs), some (.tup ps), some (.loc S.length), some (.tup [.str nmZ, .tup (edZ ++ edZ)]), none, none, none, none, none, none, none, none, none, none, none] (S ++ [.lst acc]) = .ok p0 (S ++ [.lst acc]) := op_at (x := .tup ps) (y := .int 0) rfl rfl (eh _).1
    rw [eA] at x
    exact asg_at (d := .tup [.tup [.str nmA, .tup edA], lstS spareL]) (tupK_at (cons_at x (cons_at spare_at rfl)) (by simp)) rfl
  refine wp_seqA nm ?_
  clear nm
  have sg : sAsg (xOp dIxT (xVar 8) (xC (.int 0))) (gT 3 (gCo (gN 10) (gCo (gN 11) (gCo (gN 12) gNl)))) [some (loreW n w cs ps v), some (kP n), some (kP w), some (tupS cs), some (.tup ps), some (.loc S.length), some (.tup [.str nmZ, .tup (edZ ++ edZ)]), some (.str nmA), some (.tup edA), some (lstS spareL), none, none, none, none, none, none, none, none] (S ++ [.lst acc]) = .ok (.nx [some (loreW n w cs ps v), some (kP n), some (kP w), some (tupS cs), some (.tup ps), some (.loc S.length), some (.tup [.str nmZ, .tup (edZ ++ edZ)]), some (.str nmA), some (.tup edA), some (lstS spareL), some (.str sight), some (.tup rs), some (.tup ws), none, none, none, none, none]) (S ++ [.lst acc]) := by
    have x : xOp dIxT (xVar 8) (xC (.int 0)) [some (loreW n w cs ps v), some (kP n), some (kP w), some (tupS cs), some (.tup ps), some (.loc S.length), some (.tup [.str nmZ, .tup (edZ ++ edZ)]), some (.str nmA), some (.tup edA), some (lstS spareL), none, none, none, none, none, none, none, none] (S ++ [.lst acc]) = .ok ed (S ++ [.lst acc]) := op_at (x := .tup edA) (y := .int 0) rfl rfl (ee _).1
    rw [e2] at x
    exact asg_at x rfl
  refine wp_seqA sg ?_
  clear sg
  have so : ∃ s2 : Str, s2 ∈ (["narrow", "wide"] : List Str) ∧ s2 ≠ sight ∧ xIf (bTest (xOp dEq (xVar 10) (xC (.str "narrow")))) (xC (.str "wide")) (xC (.str "narrow")) [some (loreW n w cs ps v), some (kP n), some (kP w), some (tupS cs), some (.tup ps), some (.loc S.length), some (.tup [.str nmZ, .tup (edZ ++ edZ)]), some (.str nmA), some (.tup edA), some (lstS spareL), some (.str sight), some (.tup rs), some (.tup ws), none, none, none, none, none] (S ++ [.lst acc]) = .ok (.str s2) (S ++ [.lst acc]) := by
    have t : bTest (xOp dEq (xVar 10) (xC (.str "narrow"))) [some (loreW n w cs ps v), some (kP n), some (kP w), some (tupS cs), some (.tup ps), some (.loc S.length), some (.tup [.str nmZ, .tup (edZ ++ edZ)]), some (.str nmA), some (.tup edA), some (lstS spareL), some (.str sight), some (.tup rs), some (.tup ws), none, none, none, none, none] (S ++ [.lst acc]) = .ok (decide (sight = "narrow")) (S ++ [.lst acc]) := test_at (op_at (x := .str sight) (y := .str "narrow") rfl rfl eqS_at)
    by_cases c : sight = "narrow"
    · rw [decide_eq_true c] at t
      exact ⟨"wide", by decide +kernel, by rw [c]; decide +kernel, (xif_b t).trans rfl⟩
    · rw [decide_eq_false c] at t
      exact ⟨"narrow", by decide +kernel, fun z => c z.symm, (xif_b t).trans rfl⟩
  obtain ⟨s2, hs2, ns2, es2⟩ := so
  refine wp_seqA (ρ' := [some (loreW n w cs ps v), some (kP n), some (kP w), some (tupS cs), some (.tup ps), some (.loc S.length), some (.tup [.str nmZ, .tup (edZ ++ edZ)]), some (.str nmA), some (.tup edA), some (lstS spareL), some (.str sight), some (.tup rs), some (.tup ws), some (.tup [.str s2, .tup rs, .tup ws]), none, none, none, none]) (S1 := S ++ [.lst acc]) (asg_at (tupK_at (cons_at es2 (cons_at (x := .tup rs) rfl (cons_at (x := .tup ws) rfl rfl))) (by simp)) rfl) ?_
  have ct : xOp dCatT (xTup (xCons (xVar 13) xNil)) (jSl dCutT (xVar 8) (oSome (xC (.int 1))) oNone) [some (loreW n w cs ps v), some (kP n), some (kP w), some (tupS cs), some (.tup ps), some (.loc S.length), some (.tup [.str nmZ, .tup (edZ ++ edZ)]), some (.str nmA), some (.tup edA), some (lstS spareL), some (.str sight), some (.tup rs), some (.tup ws), some (.tup [.str s2, .tup rs, .tup ws]), none, none, none, none] (S ++ [.lst acc]) = .ok (.tup (.tup [.str s2, .tup rs, .tup ws] :: er)) (S ++ [.lst acc]) := by
    refine op_at (x := .tup [.tup [.str s2, .tup rs, .tup ws]]) (y := .tup er) rfl (ee _).2 (catT_ok (by simp; omega))
  refine wp_seqA (ρ' := [some (loreW n w cs ps v), some (kP n), some (kP w), some (tupS cs), some (.tup ps), some (.loc S.length), some (.tup [.str nmZ, .tup (edZ ++ edZ)]), some (.str nmA), some (.tup edA), some (lstS spareL), some (.str sight), some (.tup rs), some (.tup ws), some (.tup [.str s2, .tup rs, .tup ws]), some (.tup [.str nmA, .tup (.tup [.str s2, .tup rs, .tup ws] :: er)]), none, none, none]) (S1 := S ++ [.lst acc]) (asg_at (tupK_at (cons_at (x := .str nmA) rfl (cons_at ct rfl)) (by simp)) rfl) ?_
  clear ct
  have ct : xOp dCatT (xTup (xCons (xVar 14) xNil)) (jSl dCutT (xVar 4) (oSome (xC (.int 1))) oNone) [some (loreW n w cs ps v), some (kP n), some (kP w), some (tupS cs), some (.tup ps), some (.loc S.length), some (.tup [.str nmZ, .tup (edZ ++ edZ)]), some (.str nmA), some (.tup edA), some (lstS spareL), some (.str sight), some (.tup rs), some (.tup ws), some (.tup [.str s2, .tup rs, .tup ws]), some (.tup [.str nmA, .tup (.tup [.str s2, .tup rs, .tup ws] :: er)]), none, none, none] (S ++ [.lst acc]) = .ok (.tup (.tup [.str nmA, .tup (.tup [.str s2, .tup rs, .tup ws] :: er)] :: pr)) (S ++ [.lst acc]) := by
    refine op_at (x := .tup [.tup [.str nmA, .tup (.tup [.str s2, .tup rs, .tup ws] :: er)]]) (y := .tup pr) rfl (eh _).2 (catT_ok (by simp; omega))
  refine wp_seqA (appL (x := parts n w cs (.tup [.str nmA, .tup (.tup [.str s2, .tup rs, .tup ws] :: er)] :: pr)) rfl (cons_at (tupK_at (cons_at (x := kP n) rfl (cons_at (x := kP w) rfl (cons_at (x := tupS cs) rfl (cons_at ct rfl)))) (by simp)) rfl) (by omega)) ?_
  clear ct
  have a5 : ∀ d, d ∈ acc ++ [parts n w cs (.tup [.str nmA, .tup (.tup [.str s2, .tup rs, .tup ws] :: er)] :: pr)] → OthD n w cs ps d := fun d hd => by
    rcases List.mem_append.mp hd with hd | hd
    · exact a4 d hd
    · rw [List.mem_singleton.mp hd]
      have h2 := h
      rw [e0, eA, e1, e2] at h2
      have o := oth5 h2 hc K hs2 ns2
      rw [← e2, ← e1, ← eA, ← e0] at o
      exact o
  have l5 : (acc ++ [parts n w cs (.tup [.str nmA, .tup (.tup [.str s2, .tup rs, .tup ws] :: er)] :: pr)]).length ≤ 5 := by rw [List.length_append]; simp; omega
  generalize acc ++ [parts n w cs (.tup [.str nmA, .tup (.tup [.str s2, .tup rs, .tup ws] :: er)] :: pr)] = acc at a5 l5 ⊢
  clear a4 l4 es2
  have tl : bTest (xOp dLt (xCB dLen (xCons (xVar 3) xNil)) (xC (.int 3))) [some (loreW n w cs ps v), some (kP n), some (kP w), some (tupS cs), some (.tup ps), some (.loc S.length), some (.tup [.str nmZ, .tup (edZ ++ edZ)]), some (.str nmA), some (.tup edA), some (lstS spareL), some (.str sight), some (.tup rs), some (.tup ws), some (.tup [.str s2, .tup rs, .tup ws]), some (.tup [.str nmA, .tup (.tup [.str s2, .tup rs, .tup ws] :: er)]), none, none, none] (S ++ [.lst acc]) = .ok (decide (cs.length < 3)) (S ++ [.lst acc]) := by
    refine test_at (op_at (x := .int cs.length) (y := .int 3) ?_ rfl ?_)
    · show Out.ok (Dat.int ((cs.map Dat.str).length : Int)) _ = _
      rw [List.length_map]
    · show Out.ok (Dat.bl (decide ((cs.length : Int) < 3))) _ = _
      by_cases c : cs.length < 3
      · rw [decide_eq_true c, decide_eq_true (show (cs.length : Int) < 3 by omega)]
      · rw [decide_eq_false c, decide_eq_false (show ¬ (cs.length : Int) < 3 by omega)]
  have fin : ∀ (ρ : Env) (acc : List Dat), ρ[5]? = some (some (.loc S.length)) → (∀ d, d ∈ acc → OthD n w cs ps d) → acc.length ≤ 6 → wp (sRet (xVar 5) ρ) (S ++ [.lst acc]) fun f S' => wp (outF f) S' fun d S' => ∃ acc, d = .loc S.length ∧ S' = S ++ [.lst acc] ∧ (∀ d, d ∈ acc → OthD n w cs ps d) ∧ acc.length ≤ 6 := fun ρ acc hρ ha hl => wp_ret (wp_var hρ (wp_pure ⟨acc, rfl, rfl, ha, hl⟩))
  by_cases c : cs.length < 3
  · rw [decide_eq_true c] at tl
    obtain ⟨x, em, hx, nx⟩ := more_at (S := S ++ [.lst acc]) c (a0 := some (loreW n w cs ps v)) (a1 := some (kP n)) (a2 := some (kP w)) (a4 := some (.tup ps)) (a5 := some (.loc S.length)) (a6 := some (.tup [.str nmZ, .tup (edZ ++ edZ)])) (a7 := some (.str nmA)) (a8 := some (.tup edA)) (a10 := some (.str sight)) (a11 := some (.tup rs)) (a12 := some (.tup ws)) (a13 := some (.tup [.str s2, .tup rs, .tup ws])) (a14 := some (.tup [.str nmA, .tup (.tup [.str s2, .tup rs, .tup ws] :: er)])) (a15 := none) (a16 := none) (a17 := none)
    refine wp_seqA (ρ' := [some (loreW n w cs ps v), some (kP n), some (kP w), some (tupS cs), some (.tup ps), some (.loc S.length), some (.tup [.str nmZ, .tup (edZ ++ edZ)]), some (.str nmA), some (.tup edA), some (lstS spareL), some (.str sight), some (.tup rs), some (.tup ws), some (.tup [.str s2, .tup rs, .tup ws]), some (.tup [.str nmA, .tup (.tup [.str s2, .tup rs, .tup ws] :: er)]), some (lstS [x]), some (lstS (sortS (cs ++ [x]))), none]) (S1 := S ++ [.lst (acc ++ [parts n w (sortS (cs ++ [x])) ps])]) ((if_t tl).trans ?_) (fin _ _ rfl (fun d hd => ?_) (by rw [List.length_append]; simp; omega))
    · refine (seq_at (ρ' := [some (loreW n w cs ps v), some (kP n), some (kP w), some (tupS cs), some (.tup ps), some (.loc S.length), some (.tup [.str nmZ, .tup (edZ ++ edZ)]), some (.str nmA), some (.tup edA), some (lstS spareL), some (.str sight), some (.tup rs), some (.tup ws), some (.tup [.str s2, .tup rs, .tup ws]), some (.tup [.str nmA, .tup (.tup [.str s2, .tup rs, .tup ws] :: er)]), some (lstS [x]), none, none]) (S' := S ++ [Dat.lst acc]) (asg_at em rfl)).trans ?_
      have so : xCB dSorted (xCons (xLc (iLst (xOp dCatL (xCB dList (xCons (xVar 3) xNil)) (xVar 15))) (gN 17) bYes (xCB dStrS (xCons (xVar 17) xNil)) [17]) xNil) [some (loreW n w cs ps v), some (kP n), some (kP w), some (tupS cs), some (.tup ps), some (.loc S.length), some (.tup [.str nmZ, .tup (edZ ++ edZ)]), some (.str nmA), some (.tup edA), some (lstS spareL), some (.str sight), some (.tup rs), some (.tup ws), some (.tup [.str s2, .tup rs, .tup ws]), some (.tup [.str nmA, .tup (.tup [.str s2, .tup rs, .tup ws] :: er)]), some (lstS [x]), none, none] (S ++ [.lst acc]) = .ok (lstS (sortS (cs ++ [x]))) (S ++ [.lst acc]) := by
        have ca : xOp dCatL (xCB dList (xCons (xVar 3) xNil)) (xVar 15) [some (loreW n w cs ps v), some (kP n), some (kP w), some (tupS cs), some (.tup ps), some (.loc S.length), some (.tup [.str nmZ, .tup (edZ ++ edZ)]), some (.str nmA), some (.tup edA), some (lstS spareL), some (.str sight), some (.tup rs), some (.tup ws), some (.tup [.str s2, .tup rs, .tup ws]), some (.tup [.str nmA, .tup (.tup [.str s2, .tup rs, .tup ws] :: er)]), some (lstS [x]), none, none] (S ++ [.lst acc]) = .ok (lstS (cs ++ [x])) (S ++ [.lst acc]) := by
          refine op_at (x := lstS cs) (y := lstS [x]) rfl rfl ?_
          have e := catL_ok (S := S ++ [.lst acc]) (xs := cs.map .str) (ys := [.str x]) (by rw [List.length_map]; simp; omega)
          refine e.trans ?_
          show _ = Out.ok (Dat.lst ((cs ++ [x]).map .str)) _
          rw [List.map_append] <;> rfl
        have lc := lc_at (S := S ++ [.lst acc]) (ρ := [some (loreW n w cs ps v), some (kP n), some (kP w), some (tupS cs), some (.tup ps), some (.loc S.length), some (.tup [.str nmZ, .tup (edZ ++ edZ)]), some (.str nmA), some (.tup edA), some (lstS spareL), some (.str sight), some (.tup rs), some (.tup ws), some (.tup [.str s2, .tup rs, .tup ws]), some (.tup [.str nmA, .tup (.tup [.str s2, .tup rs, .tup ws] :: er)]), some (lstS [x]), none, none]) (f := fun d => d) (it := iLst (xOp dCatL (xCB dList (xCons (xVar 3) xNil)) (xVar 15))) (e := xCB dStrS (xCons (xVar 17) xNil)) (i := 17) (vs := [17]) (ds := (cs ++ [x]).map .str) (by
          unfold iLst
          rw [m_bind, ca] <;> rfl) (by rw [List.length_map, List.length_append]; simp; omega) fun d hd => by
            obtain ⟨s, _, rfl⟩ := List.mem_map.mp hd
            rfl
        rw [List.map_id'] at lc
        exact cb_at (one_at lc) (sorted_at (by rw [List.length_append]; simp; omega))
      refine (seq_at (ρ' := [some (loreW n w cs ps v), some (kP n), some (kP w), some (tupS cs), some (.tup ps), some (.loc S.length), some (.tup [.str nmZ, .tup (edZ ++ edZ)]), some (.str nmA), some (.tup edA), some (lstS spareL), some (.str sight), some (.tup rs), some (.tup ws), some (.tup [.str s2, .tup rs, .tup ws]), some (.tup [.str nmA, .tup (.tup [.str s2, .tup rs, .tup ws] :: er)]), some (lstS [x]), some (lstS (sortS (cs ++ [x]))), none]) (S' := S ++ [Dat.lst acc]) (asg_at so rfl)).trans ?_
      exact appL rfl rfl (by omega)
    · rcases List.mem_append.mp hd with hd | hd
      · exact a5 d hd
      · rw [List.mem_singleton.mp hd]
        exact oth6 h hc K (spare_nm x hx) nx c
  · rw [decide_eq_false c] at tl
    exact wp_seqA ((if_f tl).trans rfl) (fin _ _ rfl a5 (by omega))
end Zd
namespace Zd
open PySem PySem.Spec PyProof.Rows L2 Zg
section
variable {S : List Dat}
theorem xjs_cons {m : Env → M Dat} {r : List (Env → M Dat)} {acc y : Str} {ρ : Env} (h : m ρ S = .ok (.str y) S) (l : acc.length + y.length ≤ 100000) : xJs (m :: r) acc ρ S = xJs r (acc ++ y) ρ S := by
  show ((m ρ >>= fun d => M.opt (sT d) >>= fun y => M.need (decide ((acc ++ y).length ≤ 100000)) >>= fun _ => xJs r (acc ++ y) ρ) : M Str) S = _
  rw [m_bind, h]
  show ((M.need (decide ((acc ++ y).length ≤ 100000)) >>= fun _ => xJs r (acc ++ y) ρ) : M Str) S = _
  rw [decide_eq_true (show (acc ++ y).length ≤ 100000 by
    show (acc.cps ++ y.cps).size ≤ _
    rw [Array.size_append]
    exact l)] <;> rfl
theorem fmt_at {i : Int} (h : -(10 ^ 20) < i ∧ i < 10 ^ 20) : ∃ z : Str, z.length ≤ 24 ∧ dFmt (.int i) S = .ok (.str z) S := by
  refine ⟨toString i, ?_, ?_⟩
  · have k := (shw_int h).ls
    simp only [PyData.leavesShort, decide_eq_true_eq] at k
    exact k
  · show ((M.need (decide (i.natAbs.log2 < 1920)) >>= fun _ => pure (.str (toString i))) : M Dat) S = _
    rw [decide_eq_true (log_lt h)] <;> rfl
theorem app_len (x y : Str) : (x ++ y).length = x.length + y.length := by
  show (x.cps ++ y.cps).size = _
  rw [Array.size_append] <;> rfl
theorem kstr {q : Ki} (h : -(10 ^ 20) < q.1 ∧ q.1 < 10 ^ 20) (k : -(10 ^ 20) < q.2 ∧ q.2 < 10 ^ 20) : ∃ z : Str, L_Kind___str__ [kindO q] S = .ok (.str z) S := by
  obtain ⟨a, la, ea⟩ := fmt_at (S := S) h
  obtain ⟨b, lb, eb⟩ := fmt_at (S := S) k
  have e1 : (xUn dFmt (xUn (dFldI "Kind" "low") (xVar 0))) [some (kindO q)] S = .ok (.str a) S := ea
  have e2 : (xUn dFmt (xUn (dFldI "Kind" "high") (xVar 0))) [some (kindO q)] S = .ok (.str b) S := eb
  have l2 : ((".." : Str)).length ≤ 2 := by decide +kernel
  refine ⟨((Str.empty ++ a) ++ "..") ++ b, run_at (ret_at ?_)⟩
  show xJoined _ [some (kindO q)] S = _
  unfold xJoined
  have e3 := xjs_cons (r := [(xC (.str "..")), (xUn dFmt (xUn (dFldI "Kind" "high") (xVar 0)))]) (acc := Str.empty) e1 (by show 0 + _ ≤ _; omega)
  have e4 := xjs_cons (S := S) (m := xC (.str "..")) (y := "..") (ρ := [some (kindO q)]) (r := [(xUn dFmt (xUn (dFldI "Kind" "high") (xVar 0)))]) (acc := Str.empty ++ a) rfl (by rw [app_len]; show 0 + _ + _ ≤ _; omega)
  have e5 := xjs_cons (r := []) (acc := (Str.empty ++ a) ++ "..") e2 (by rw [app_len, app_len]; show 0 + _ + _ + _ ≤ _; omega)
  rw [m_bind, e3.trans (e4.trans e5)] <;> rfl
variable {n w n2 w2 : Ki} {cs cs2 : List Str} {ps ps2 : List Dat}
theorem neA_at {x : Bool} (h : L_World___eq__ [worldO n w cs ps, worldO n2 w2 cs2 ps2] S = .ok (.bl x) S) : dNeA "World" ["Kind"] L_World___eq__ (worldO n w cs ps) (worldO n2 w2 cs2 ps2) S = .ok (.bl (!x)) S := by
  show (calm (L_World___eq__ [worldO n w cs ps, worldO n2 w2 cs2 ps2]) >>= fun z => M.opt (dB z) >>= fun b => pure (.bl (!b)) : M Dat) S = _
  rw [m_bind, calm_at h] <;> rfl
theorem madeF {hk : Kd n w} (hc : NmS cs) (h : Pgms cs ps) : callF L__law_made [parts n w cs ps] S = .ok (worldO n w cs ps) S := by
  have st : St 9 (parts n w cs ps) := st_tup (st_all4 (P := St 8) st_kP st_kP (st_strs.up (k := 2) (by decide)) h.st)
  refine callF_ok ?_ (made_ok hk hc h) ((st_world h.st).2 _ _ (by decide)) S
  exact noLocs_of fun d hd => by rw [List.mem_singleton.mp hd]; exact st.1
def lenE (p : Dat) : Nat := match p with
  | .tup [_, .tup eds] => eds.length
  | _ => 0
abbrev smallT : Env → M Bool := bTest (xCB dAll (xCons (xLc (iTp (xOp dIxT (xVar 6) (xC (.int 3)))) (gN 8) bYes (xOp dLt (xCB dLen (xCons (xOp dIxT (xVar 8) (xC (.int 1))) xNil)) (xC (.int 4))) [8]) xNil))
abbrev fewT : Env → M Bool := bTest (xOp dLt (xCall L__law_late (xCons (xOp dIxT (xVar 6) (xC (.int 3))) xNil)) (xC (.int 3)))
abbrev sameT : Env → M Bool := bOr (bTest (xOp (dOwnA "World" ["Kind"] L_World___eq__) (xCall (callF L__law_made) (xCons (xVar 6) xNil)) (xVar 2))) (bNot (bTest (xOp (dNeA "World" ["Kind"] L_World___eq__) (xCall (callF L__law_made) (xCons (xVar 6) xNil)) (xVar 2))))
abbrev othB : Env → M Flow := sIf (bAnd smallT fewT) (sIf sameT (sRet (xC (.bl false))) sNx) sNx
theorem oth_at {a0 a1 a3 a4 a5 a7 a8 : Option Dat} {d : Dat} (h : Pgms cs ps) (hc : NmS cs) (hd : OthD n w cs ps d) : othB [a0, a1, some (worldO n w cs ps), a3, a4, a5, some d, a7, a8] S = .ok (.nx [a0, a1, some (worldO n w cs ps), a3, a4, a5, some d, a7, a8]) S := by
  obtain ⟨n2, w2, cs2, ps2, rfl, o⟩ := hd
  have l3 := o.l3
  have t1 : smallT [a0, a1, some (worldO n w cs ps), a3, a4, a5, some (parts n2 w2 cs2 ps2), a7, a8] S = .ok ((ps2.map fun p => decide (lenE p < 4)).all id) S := by
    refine test_at (cb_at (S1 := S) (ds := [.lst ((ps2.map fun p => decide (lenE p < 4)).map .bl)]) (one_at ?_) all_of)
    have e := lc_at (S := S) (ρ := [a0, a1, some (worldO n w cs ps), a3, a4, a5, some (parts n2 w2 cs2 ps2), a7, a8]) (f := fun p => .bl (decide (lenE p < 4))) (it := iTp (xOp dIxT (xVar 6) (xC (.int 3)))) (e := xOp dLt (xCB dLen (xCons (xOp dIxT (xVar 8) (xC (.int 1))) xNil)) (xC (.int 4))) (i := 8) (vs := [8]) (ds := ps2) rfl (by omega) fun p hp => by
      obtain ⟨s, eds, rfl, le⟩ := o.sh p hp
      refine op_at (x := .int eds.length) (y := .int 4) rfl rfl ?_
      show Out.ok (Dat.bl (decide ((eds.length : Int) < 4))) S = .ok (.bl (decide (eds.length < 4))) S
      by_cases c : eds.length < 4
      · rw [decide_eq_true c, decide_eq_true (show (eds.length : Int) < 4 by omega)]
      · rw [decide_eq_false c, decide_eq_false (show ¬ (eds.length : Int) < 4 by omega)]
    rw [List.map_map]
    exact e
  have t2 : fewT [a0, a1, some (worldO n w cs ps), a3, a4, a5, some (parts n2 w2 cs2 ps2), a7, a8] S = .ok (decide ((ps2.map cntP).sum < 3)) S := by
    refine test_at (op_at (x := .int (ps2.map cntP).sum) (y := .int 3) (call_at (S1 := S) (ds := [.tup ps2]) rfl (late_ok o.pl)) rfl ?_)
    show Out.ok (Dat.bl (decide ((((ps2.map cntP).sum : Nat) : Int) < 3))) S = _
    by_cases c : (ps2.map cntP).sum < 3
    · rw [decide_eq_true c, decide_eq_true (show (((ps2.map cntP).sum : Nat) : Int) < 3 by omega)]
    · rw [decide_eq_false c, decide_eq_false (show ¬ (((ps2.map cntP).sum : Nat) : Int) < 3 by omega)]
  cases c1 : (ps2.map fun p => decide (lenE p < 4)).all id with
  | false =>
    rw [c1] at t1
    exact (if_f (band_f t1)).trans rfl
  | true =>
    rw [c1] at t1
    by_cases c2 : (ps2.map cntP).sum < 3
    · rw [decide_eq_true c2] at t2
      have P2 : Pgms cs2 ps2 := o.ok (fun p hp s eds e => by
        have k := List.all_eq_true.mp c1 (decide (lenE p < 4)) (List.mem_map.mpr ⟨p, hp, rfl⟩)
        have k := of_decide_eq_true k
        rw [e] at k
        exact k) (by omega)
      obtain ⟨x, ex, ix⟩ := weq (S := S) (n := n2) (w := w2) (n2 := n) (w2 := w) o.c hc (P2.sw o.c) (h.sw hc) (by decide) (by decide)
      have xf : x = false := by
        cases x with
        | false => rfl
        | true => exact absurd (ix.mp rfl) o.ne
      subst xf
      have m := madeF (S := S) (hk := o.k) o.c P2
      have t3 : sameT [a0, a1, some (worldO n w cs ps), a3, a4, a5, some (parts n2 w2 cs2 ps2), a7, a8] S = .ok false S := by
        refine (or_f (S' := S) (test_at (op_at (x := worldO n2 w2 cs2 ps2) (y := worldO n w cs ps) (call_at (S1 := S) (ds := [parts n2 w2 cs2 ps2]) rfl m) rfl (ownA_at ex)))).trans ?_
        exact not_at (test_at (op_at (x := worldO n2 w2 cs2 ps2) (y := worldO n w cs ps) (call_at (S1 := S) (ds := [parts n2 w2 cs2 ps2]) rfl m) rfl (neA_at ex)))
      exact (if_t (band_t t1 t2)).trans ((if_f t3).trans rfl)
    · rw [decide_eq_false c2] at t2
      exact (if_f (band_t t1 t2)).trans rfl
end
end Zd
namespace Zd
open PySem PySem.Spec PyProof.Rows L2 Zg
section
variable {S : List Dat} {n w : Ki} {cs : List Str} {ps : List Dat}
theorem not_world {d : Dat} (h : isC "World" ["Kind"] S d = some false) : dOwnA "World" ["Kind"] L_World___eq__ (worldO n w cs ps) d S = .ok (.bl false) S := by
  have e : L_World___eq__ [worldO n w cs ps, d] S = .ok (.bl false) S := by
    refine run_at (ret_at ?_)
    have i : xCB (dIsiC "World" ["Kind"]) (xCons (xVar 1) (xCons (xC (.cls "World")) xNil)) [some (worldO n w cs ps), some d] S = .ok (.bl false) S := by
      refine cb_at (S1 := S) (ds := [d, .cls "World"]) rfl ?_
      show (match isC "World" ["Kind"] S d with | some b => Out.ok (Dat.bl b) S | none => .bad) = _
      rw [h]
    show xAnd (xCB (dIsiC "World" ["Kind"]) (xCons (xVar 1) (xCons (xC (.cls "World")) xNil))) _ [some (worldO n w cs ps), some d] S = _
    unfold xAnd
    rw [m_bind, test_at i] <;> rfl
  unfold dOwnA
  show (match (some ("World", ["narrow", "wide", "columns", "programs"]) : Option (String × List Str)), isC "World" ["Kind"] S d with | some (c1, _), some _ => (match decide (c1 = "World") with | true => calm (L_World___eq__ [worldO n w cs ps, d]) S | false => .bad) | _, _ => .bad) = _
  rw [h]
  exact calm_at e
theorem six_at {z : Str} {a0 a1 a3 a4 a5 a6 a8 : Option Dat} : xOp (dEqD false) (xLc (iLst (xVar 7)) (gN 8) bYes (xOp (dOwnA "World" ["Kind"] L_World___eq__) (xVar 2) (xVar 8)) [8]) (xOp dRepL (xLst (xCons (xC (.bl false)) xNil)) (xC (.int 6)))
    [a0, a1, some (worldO n w cs ps), a3, a4, a5, a6, some (.lst [parts n w cs ps, kindO n, .non, tupS cs, .str z, .tup [kindO n, kindO w]]), a8] S = .ok (.bl true) S := by
  have e := lc_at (S := S) (ρ := [a0, a1, some (worldO n w cs ps), a3, a4, a5, a6, some (.lst [parts n w cs ps, kindO n, .non, tupS cs, .str z, .tup [kindO n, kindO w]]), a8]) (f := fun _ => .bl false) (it := iLst (xVar 7)) (e := xOp (dOwnA "World" ["Kind"] L_World___eq__) (xVar 2) (xVar 8)) (i := 8) (vs := [8]) (ds := [parts n w cs ps, kindO n, .non, tupS cs, .str z, .tup [kindO n, kindO w]]) rfl (by simp) fun d hd => by
    refine op_at (x := worldO n w cs ps) (y := d) rfl rfl (not_world ?_)
    rcases List.mem_cons.mp hd with hd | hd
    · rw [hd]; rfl
    · rcases List.mem_cons.mp hd with hd | hd
      · rw [hd]; rfl
      · rcases List.mem_cons.mp hd with hd | hd
        · rw [hd]; rfl
        · rcases List.mem_cons.mp hd with hd | hd
          · rw [hd]; rfl
          · rcases List.mem_cons.mp hd with hd | hd
            · rw [hd]; rfl
            · rw [List.mem_singleton.mp hd]; rfl
  refine op_at (x := .lst [.bl false, .bl false, .bl false, .bl false, .bl false, .bl false]) (y := .lst [.bl false, .bl false, .bl false, .bl false, .bl false, .bl false]) e rfl ?_
  kernel_rfl
end
section
variable {ℓ : Nat}
theorem w_othersP {n w : Ki} {cs : List Str} {ps : List Dat} {v : Int} {k : Nat} {S : List Dat} {C : Dat → List Dat → Prop} (nl : noLocs S = true) (hp : Pot ℓ k S) (h : Pgms cs ps) (hc : NmS cs) (K : KdD n w) (q : ∀ acc S', (∀ d, d ∈ acc → OthD n w cs ps d) → acc.length ≤ 6 → Pot ℓ k S' → noLocs S' = true → FrS ℓ S S' → C (.lst acc) S') : wp (callP L__law_others [loreW n w cs ps v]) S C := by
  refine wp_callP nl hp (k := k) (wp_mono (w_others h hc K) fun d S' ⟨acc, ed, es, ha, hl⟩ => ?_)
  subst ed
  subst es
  refine ⟨hp.push, .push, .lst acc, ?_, fun S2 hp2 nl2 f2 => q acc S2 ha hl hp2 nl2 f2⟩
  have st : St 10 (.lst acc) := st_lst fun d hd => (ha d hd).st
  unfold frzN
  dsimp only
  rw [decide_eq_true (Nat.le_refl _)]
  dsimp only
  rw [List.getElem?_append_right (Nat.le_refl _), Nat.sub_self]
  exact frzN_of 39 _ st.1 _ (st.2 _ 39 (by decide))
theorem w_right {k : Nat} {S : List Dat} (nl : noLocs S = true) (h : Pot ℓ (k + 284) S) : wp (L__law_right [.loc ℓ]) S fun d S' => d = .bl true ∧ Pot ℓ k S' ∧ noLocs S' = true := by
  refine wp_run (wp_seq (wp_asg (wp_call (wp_cons (wp_of (a := .loc ℓ) (S' := S) rfl (wp_cons (wp_of (a := most3) (S' := S) rfl (wp_nil ?_))))))))
  refine w_worldP nl h fun n w cs ps v S1 K hc P hp1 nl1 f1 => ?_
  refine ⟨[some (.loc ℓ), some (loreW n w cs ps v), none, none, none, none, none, none, none], rfl, ?_⟩
  dsimp only
  clear h nl f1
  refine wp_seqA (ρ' := [some (.loc ℓ), some (loreW n w cs ps v), some (worldO n w cs ps), some (parts n w cs ps), none, none, none, none, none]) (S1 := S1) (by kernel_rfl) ?_
  refine wp_seqA (ρ' := [some (.loc ℓ), some (loreW n w cs ps v), some (worldO n w cs ps), some (parts n w cs ps), some (.lst [kP n, kP w, tupS cs, .tup ps]), none, none, none, none]) (S1 := S1) (by kernel_rfl) ?_
  obtain ⟨z, hz⟩ := told_repr K.toKd hc P
  have same : bTest (xOp dNe (xCB dRepr2 (xCons (xVar 4) xNil)) (xCB dRepr2 (xCons (xLst (xCons (xDGet (xVar 1) (xC (.str "narrow"))) (xCons (xDGet (xVar 1) (xC (.str "wide"))) (xCons (xDGet (xVar 1) (xC (.str "columns"))) (xCons (xDGet (xVar 1) (xC (.str "programs"))) xNil))))) xNil))) [some (.loc ℓ), some (loreW n w cs ps v), some (worldO n w cs ps), some (parts n w cs ps), some (.lst [kP n, kP w, tupS cs, .tup ps]), none, none, none, none] S1 = .ok false S1 := by
    have e : (xLst (xCons (xDGet (xVar 1) (xC (.str "narrow"))) (xCons (xDGet (xVar 1) (xC (.str "wide"))) (xCons (xDGet (xVar 1) (xC (.str "columns"))) (xCons (xDGet (xVar 1) (xC (.str "programs"))) xNil))))) [some (.loc ℓ), some (loreW n w cs ps v), some (worldO n w cs ps), some (parts n w cs ps), some (.lst [kP n, kP w, tupS cs, .tup ps]), none, none, none, none] S1 = .ok (.lst [kP n, kP w, tupS cs, .tup ps]) S1 := by kernel_rfl
    refine test_at (op_at (x := .str z) (y := .str z) (cb_at (one_at rfl) (hz S1)) (cb_at (one_at e) (hz S1)) ?_)
    rw [neS_at, decide_eq_true rfl] <;> rfl
  refine wp_seqA ((if_f same).trans rfl) ?_
  clear same
  have sec : sAsg (xCall (callF (mkNew "World" L_World___init__)) (xCons (xUn (dFldI "World" "narrow") (xVar 2)) (xCons (xUn (dFldI "World" "wide") (xVar 2)) (xCons (xUn (dFldI "World" "columns") (xVar 2)) (xCons (xUn (dFldI "World" "programs") (xVar 2)) xNil))))) (gN 5) [some (.loc ℓ), some (loreW n w cs ps v), some (worldO n w cs ps), some (parts n w cs ps), some (.lst [kP n, kP w, tupS cs, .tup ps]), none, none, none, none] S1 = .ok (.nx [some (.loc ℓ), some (loreW n w cs ps v), some (worldO n w cs ps), some (parts n w cs ps), some (.lst [kP n, kP w, tupS cs, .tup ps]), some (worldO n w cs ps), none, none, none]) S1 := asg_at (call_at (S1 := S1) (ds := [kindO n, kindO w, tupS cs, .tup ps]) rfl (world_at K.toKd hc P)) rfl
  refine wp_seqA sec ?_
  clear sec
  obtain ⟨x, ex, ix⟩ := weq (S := S1) (n := n) (w := w) (n2 := n) (w2 := w) hc hc (P.sw hc) (P.sw hc) (by decide) (by decide)
  have xt : x = true := ix.mpr ⟨rfl, rfl, rfl, rfl⟩
  subst xt
  have eqs : bOr (bNot (bTest (xOp (dOwnA "World" ["Kind"] L_World___eq__) (xVar 2) (xCall (callF L__law_made) (xCons (xVar 3) xNil))))) (bOr (bTest (xOp (dNeA "World" ["Kind"] L_World___eq__) (xVar 2) (xVar 5))) (bNot (bTest (xOp (dOwnA "World" ["Kind"] L_World___eq__) (xVar 5) (xVar 2))))) [some (.loc ℓ), some (loreW n w cs ps v), some (worldO n w cs ps), some (parts n w cs ps), some (.lst [kP n, kP w, tupS cs, .tup ps]), some (worldO n w cs ps), none, none, none] S1 = .ok false S1 := by
    refine (or_f (S' := S1) (not_at (test_at (op_at (x := worldO n w cs ps) (y := worldO n w cs ps) rfl (call_at (S1 := S1) (ds := [parts n w cs ps]) rfl (madeF (hk := K.toKd) hc P)) (ownA_at ex))))).trans ?_
    refine (or_f (S' := S1) (test_at (op_at (x := worldO n w cs ps) (y := worldO n w cs ps) rfl rfl (neA_at ex)))).trans ?_
    exact not_at (test_at (op_at (x := worldO n w cs ps) (y := worldO n w cs ps) rfl rfl (ownA_at ex)))
  refine wp_seqA ((if_f eqs).trans rfl) ?_
  clear eqs
  -- the others
  refine wp_seq (wp_bind (wp_bind (wp_call (wp_cons (wp_of (a := loreW n w cs ps v) (S' := S1) rfl (wp_nil ?_))))))
  refine w_othersP nl1 hp1 P hc K fun acc S2 ha hl hp2 nl2 f2 => ?_
  refine wp_of (a := acc) (S' := S2) rfl ?_
  obtain ⟨ρ', e, k'⟩ := for_at (S := S2) (b := othB) (i := 6) (ds := acc) (ρ := [some (.loc ℓ), some (loreW n w cs ps v), some (worldO n w cs ps), some (parts n w cs ps), some (.lst [kP n, kP w, tupS cs, .tup ps]), some (worldO n w cs ps), none, none, none]) fun d hd => oth_at P hc (ha d hd)
  obtain ⟨y, rfl⟩ : ∃ y, ρ' = [some (.loc ℓ), some (loreW n w cs ps v), some (worldO n w cs ps), some (parts n w cs ps), some (.lst [kP n, kP w, tupS cs, .tup ps]), some (worldO n w cs ps), y, none, none] := by
    match ρ', k' with
    | [a0, a1, a2, a3, a4, a5, a6, a7, a8], k' => cases k'; exact ⟨a6, rfl⟩
  refine wp_of e ?_
  dsimp only
  obtain ⟨u, hu⟩ := kstr (S := S2) (q := n) (by have := K.f2; have := K.a; have := K.d; omega) (by have := K.b; have := K.e; have := K.g2; omega)
  have st : xCB (dStrI "Kind" L_Kind___str__) (xCons (xUn (dFldI "World" "narrow") (xVar 2)) xNil) [some (.loc ℓ), some (loreW n w cs ps v), some (worldO n w cs ps), some (parts n w cs ps), some (.lst [kP n, kP w, tupS cs, .tup ps]), some (worldO n w cs ps), y, none, none] S2 = .ok (.str u) S2 := by
    refine cb_at (S1 := S2) (ds := [kindO n]) rfl ?_
    show (calm (L_Kind___str__ [kindO n]) >>= fun z => M.opt (strOnly z) >>= fun t => pure (.str t) : M Dat) S2 = _
    rw [m_bind, calm_at hu] <;> rfl
  have so : sAsg (xLst (xCons (xVar 3) (xCons (xUn (dFldI "World" "narrow") (xVar 2)) (xCons (xC .non) (xCons (xUn (dFldI "World" "columns") (xVar 2)) (xCons (xCB (dStrI "Kind" L_Kind___str__) (xCons (xUn (dFldI "World" "narrow") (xVar 2)) xNil)) (xCons (xTup (xCons (xUn (dFldI "World" "narrow") (xVar 2)) (xCons (xUn (dFldI "World" "wide") (xVar 2)) xNil))) xNil))))))) (gN 7) [some (.loc ℓ), some (loreW n w cs ps v), some (worldO n w cs ps), some (parts n w cs ps), some (.lst [kP n, kP w, tupS cs, .tup ps]), some (worldO n w cs ps), y, none, none] S2 = .ok (.nx [some (.loc ℓ), some (loreW n w cs ps v), some (worldO n w cs ps), some (parts n w cs ps), some (.lst [kP n, kP w, tupS cs, .tup ps]), some (worldO n w cs ps), y, some (.lst [parts n w cs ps, kindO n, .non, tupS cs, .str u, .tup [kindO n, kindO w]]), none]) S2 := by
    refine asg_at (d := .lst [parts n w cs ps, kindO n, .non, tupS cs, .str u, .tup [kindO n, kindO w]]) ?_ rfl
    have l := cons_at (S := S2) (S1 := S2) (S2 := S2) (a := xVar 3) (x := parts n w cs ps) (ρ := [some (.loc ℓ), some (loreW n w cs ps v), some (worldO n w cs ps), some (parts n w cs ps), some (.lst [kP n, kP w, tupS cs, .tup ps]), some (worldO n w cs ps), y, none, none]) rfl (cons_at (S1 := S2) (S2 := S2) (a := xUn (dFldI "World" "narrow") (xVar 2)) (x := kindO n) rfl (cons_at (S1 := S2) (S2 := S2) (a := xC .non) (x := .non) rfl (cons_at (S1 := S2) (S2 := S2) (a := xUn (dFldI "World" "columns") (xVar 2)) (x := tupS cs) rfl (cons_at (S1 := S2) (S2 := S2) st (cons_at (S1 := S2) (S2 := S2) (a := xTup (xCons (xUn (dFldI "World" "narrow") (xVar 2)) (xCons (xUn (dFldI "World" "wide") (xVar 2)) xNil))) (x := .tup [kindO n, kindO w]) (l := xNil) (xs := []) rfl rfl)))))
    unfold xLst
    rw [m_bind, l] <;> rfl
  refine wp_seqA so ?_
  refine wp_ret (wp_of six_at (wp_pure ⟨rfl, hp2, nl2⟩))
end
theorem w_pot2 {ns : List Int} {i : Nat} {S : List Dat} {C : Dat → List Dat → Prop} (h : i < 3) (q : ∀ o m, Pot S.length 100000 (S ++ [.lst [.int o, .int m, .int 0]]) → C (.loc S.length) (S ++ [.lst [.int o, .int m, .int 0]])) : wp (L__law_pot [.scr ns, .int (i : Int)]) S C := by
  have ih : -(2 ^ 64) < (i : Int) ∧ (i : Int) < 2 ^ 64 := by omega
  refine wp_run ?_
  have rest : ∀ c : Int, wp ((sSeq (sAsg potOwn (gN 3)) (sRetLo (xLst (xCons (xVar 3) (xCons potMid (xCons (xC (.int 0)) xNil))))) ) [some (.scr ns), some (.int (i : Int)), some (.int c), none]) S fun f S' => wp (outF f) S' C := fun c => by
    refine wp_seq (wp_asg (w_own fun o o0 => ⟨_, rfl, ?_⟩))
    refine wp_bind (wp_lst (wp_cons (wp_of (a := .int o) (S' := S) rfl (wp_cons ?_))))
    refine w_mid ih fun m m0 m1 => ?_
    refine wp_cons (wp_of (a := .int 0) (S' := S) rfl (wp_nil ⟨Nat.le_of_ble_eq_true rfl, ?_⟩))
    show wp (outF (.rt (.loc S.length))) (S ++ [.lst [.int o, .int m, .int 0]]) C
    refine wp_of rfl (q o m ⟨o, m, 0, ?_, o0, m0, m1, by decide, by decide⟩)
    rw [List.getElem?_append_right (Nat.le_refl _), Nat.sub_self]
    rfl
  by_cases c : i < ns.length
  · obtain ⟨v, hv⟩ := @scr_at ns i S c
    refine wp_seq (wp_asg (wp_xif (wp_of (a := true) (S' := S) ?_ ⟨fun _ => ?_, nofun⟩)))
    · show Out.ok (decide ((i : Int) < (ns.length : Int))) S = _
      rw [decide_eq_true (by omega)]
    · refine wp_op (wp_of (a := .scr ns) (S' := S) rfl (wp_of (a := .int (i : Int)) (S' := S) rfl (wp_of hv ⟨_, rfl, ?_⟩)))
      exact rest v
  · refine wp_seq (wp_asg (wp_xif (wp_of (a := false) (S' := S) ?_ ⟨nofun, fun _ => ?_⟩)))
    · show Out.ok (decide ((i : Int) < (ns.length : Int))) S = _
      rw [decide_eq_false (by omega)]
    · refine wp_op (wp_op (wp_of (a := .int 47) (S' := S) rfl (wp_of (a := .int (i : Int)) (S' := S) rfl (w_mul (.inl (by decide)) ?_))))
      refine wp_of (a := .int 31) (S' := S) rfl (w_add ⟨_, rfl, ?_⟩)
      generalize (47 * (i : Int) + 31) = v
      exact rest v
/-- the law's loop over its pots -/
theorem law_loop2 (Iv : List Dat → Prop) (iv : Iv []) {ns : List Int} {b : Env → M Flow} {u0 : Option Dat} {r : Env} {C : Flow → List Dat → Prop}
    (step : ∀ (r' : Env) (S : List Dat) (i : Nat), i < 3 → r'.length = r.length → Iv S → wp (b (some (.scr ns) :: some (.int (i : Int)) :: r')) S fun f S' => match f with
      | .nx ρ2 => (∃ u r2, ρ2 = some (.scr ns) :: u :: r2 ∧ r2.length = r.length) ∧ Iv S'
      | _ => False)
    (stop : ∀ ρ S, C (.nx ρ) S) : wp (sFor (iRg1 (xCons (xCB dMax (xCons (xC (.int 1)) (xCons (xCB dMin (xCons (xC (.int 3)) (xCons (xCB dLen (xCons (xVar 0) xNil)) xNil))) xNil))) xNil)) (gN 1) b (some (.scr ns) :: u0 :: r)) [] C := by
  obtain ⟨t, et, t3⟩ := loop_it ns (u0 :: r)
  refine wp_bind (wp_of et ?_)
  refine wp_for (I := fun left ρ S => (∀ d ∈ left, ∃ i : Nat, i < 3 ∧ d = .int (i : Int)) ∧ (∃ u r', ρ = some (.scr ns) :: u :: r' ∧ r'.length = r.length) ∧ Iv S) (fun d left ρ S ⟨el, ⟨u, r', eρ, lr⟩, ivS⟩ => ?_) (fun ρ S _ => stop ρ S) _ _ _ ⟨fun d m => ?_, ⟨_, _, rfl, rfl⟩, iv⟩
  · subst eρ
    obtain ⟨i, i3, rfl⟩ := el d List.mem_cons_self
    refine ⟨_, rfl, wp_mono (step r' S i i3 lr ivS) fun f S' k => ?_⟩
    cases f with
    | nx ρ2 =>
      obtain ⟨⟨u2, r2, k2, k3⟩, k4⟩ := k
      exact ⟨fun d m => el d (List.mem_cons_of_mem _ m), ⟨u2, r2, k2, k3⟩, k4⟩
    | rt d => exact k.elim
    | bk ρ => exact k.elim
    | ct ρ => exact k.elim
  · unfold intsD at m
    obtain ⟨i, mi, rfl⟩ := List.mem_map.mp m
    exact ⟨i, by have := List.mem_range.mp mi; omega, by rw [Int.zero_add]⟩
theorem law_true (ns : List Int) (few : ns.length ≤ 63) : ∃ S', L_law [.scr ns] [] = .ok (.bl true) S' := by
  have w : wp (L_law [.scr ns]) [] fun d _ => d = .bl true := by
    refine wp_run (wp_seq (law_loop2 (fun S => noLocs S = true) rfl (r := [none, none]) (fun r' S i i3 hr nl => ?_) fun ρ S => wp_ret (wp_of rfl rfl)))
    match r', hr with
    | [z2, z3], _ =>
      refine wp_seq (wp_asg (wp_call (wp_cons (wp_of (a := .scr ns) (S' := S) rfl (wp_cons (wp_of (a := .int (i : Int)) (S' := S) rfl (wp_nil ?_)))))))
      refine w_pot2 i3 fun o m hp => ⟨[some (.scr ns), some (.int (i : Int)), some (.loc S.length), z3], rfl, ?_⟩
      dsimp only
      have nl1 : noLocs (S ++ [.lst [.int o, .int m, .int 0]]) = true := noLocs_push nl rfl
      generalize S ++ [.lst [.int o, .int m, .int 0]] = S1 at hp nl1 ⊢
      have hp : Pot S.length (0 + 284 * 6) S1 := hp.le (by decide)
      have lc : wp (xLc (iRg1 (xCons (xC (.int 6)) xNil)) (gN 3) bYes (xCall L__law_right (xCons (xVar 2) xNil)) [3] [some (.scr ns), some (.int (i : Int)), some (.loc S.length), z3]) S1 fun d S' => d = .lst (List.replicate 6 (.bl true)) ∧ noLocs S' = true := by
        refine wp_lc (wp_of (a := intsD 0 6) (S' := S1) rfl ⟨by rw [intsD_len]; decide, ?_⟩)
        refine wp_comp (I := fun left acc S' => ∃ t, acc = List.replicate t (.bl true) ∧ t + left.length = 6 ∧ Pot S.length (284 * left.length) S' ∧ noLocs S' = true) (fun d ds acc S2 ⟨t, ea, lt, hp2, nl2⟩ => ?_) _ [] S1 _ ⟨0, rfl, by rw [intsD_len], by rw [intsD_len]; exact hp.le (by decide), nl1⟩ fun xs S2 ⟨t, ea, lt, hp2, nl2⟩ => ?_
        · refine ⟨[some (.scr ns), some (.int (i : Int)), some (.loc S.length), some d], rfl, ?_⟩
          refine wp_call (wp_cons (wp_of (a := .loc S.length) (S' := S2) rfl (wp_nil ?_)))
          refine wp_mono (w_right (k := 284 * ds.length) nl2 (hp2.le (by rw [List.length_cons]; omega))) fun x S3 ⟨ex, hp3, nl3⟩ => ?_
          exact ⟨t + 1, by rw [ex, ea, List.replicate_succ'], by rw [List.length_cons] at lt; omega, hp3, nl3⟩
        · rw [List.nil_append] at ea
          rw [List.length_nil, Nat.add_zero] at lt
          rw [lt] at ea
          exact ⟨by rw [ea], nl2⟩
      refine wp_if (wp_not (wp_test (wp_cb (wp_cons (wp_mono lc fun d S2 ⟨ed, nl2⟩ => ?_)))))
      subst ed
      refine wp_nil (wp_of (a := .bl true) (S' := S2) rfl ⟨true, rfl, (fun z => nomatch z), fun _ => ?_⟩)
      refine wp_of (a := Flow.nx [some (.scr ns), some (.int (i : Int)), some (.loc S.length), z3]) (S' := S2) rfl ?_
      exact ⟨⟨_, _, rfl, rfl⟩, nl2⟩
  obtain ⟨d, S', e, rfl⟩ := wp_ok w
  exact ⟨S', e⟩
end Zd
namespace Zd
open PySem PySem.Spec PyProof.Rows L2 Zg
section
variable {P : Program} {w : World} {K : PySem.W.Frag} {mg : Str → Option Value} {base : Heap} {κ : String → Addr} {CW : Addr} {n_MOST_LETTERS n_LEAST_NARROW n_MOST_PACE n_MOST_IN_TWO_EVENTS : Tok} {a_SIDES a_RULES a_DEEDS a_READ_SIDES a_HOWS a_IN_TWO_EVENTS : Addr}
theorem ok_is_integer {f : Addr} {fd : FuncData} (F : Fun K "is_integer" "is_integer" s_is_integer f fd) (T : TxD2 mg) : FnOk P w K mg base CX0 1 f fd P_is_integer (spD ⟨K, κ⟩ 1 L_is_integer) := by
  exact F.ok sc_is_integer (fun vs H Q E h => h.1) (fun cdv A outer s H vs Q E hr h => ⟨_, (pss_one (ps_ret (pe_and (pe_callB call_isi (by rfl) T.n_isinstance (by decide +kernel) (pa_cons (pv 0) (pa_cons (pe_bltn (v := .ty "int") (by rfl) T.n_int (by decide +kernel) rfl) pa_nil))) (pe_one (pe_not (pe_callB call_isi (by rfl) T.n_isinstance (by decide +kernel) (pa_cons (pv 0) (pa_cons (pe_bltn (v := .ty "bool") (by rfl) T.n_bool (by decide +kernel) rfl) pa_nil)))))))), ok_body (Z := ⟨K, κ⟩) (O := []) (js_ret (JD.w (j_andV (j_cb c_isi (ja_consW (JD.w (j_var nin)) (ja_cons j_ty ja_nil))) (j_notV (j_cb c_isi (ja_consW (JD.w (j_var nin)) (ja_cons j_ty ja_nil))))))) (fun _ m => absurd m List.not_mem_nil) h⟩)
theorem ok_is_between {f : Addr} {fd : FuncData} (F : Fun K "is_between" "is_between" s_is_between f fd) (T : TxD2 mg) (cL_is_integer : Cal P w K mg base 1 "is_integer" P_is_integer (spD ⟨K, κ⟩ 1 L_is_integer)) : FnOk P w K mg base CX0 2 f fd P_is_between (spD ⟨K, κ⟩ 3 L_is_between) := by
  obtain ⟨f_is_integer, fd_is_integer, G_is_integer, b_is_integer, g_is_integer, k_is_integer⟩ := cL_is_integer
  exact F.ok sc_is_between (fun vs H Q E h => h.1) (fun cdv A outer s H vs Q E hr h => ⟨_, (pss_one (ps_ret (pe_and (pe_call G_is_integer (hr.mono (by decide)) rfl g_is_integer k_is_integer b_is_integer .nil pass0 (pa_cons (pv 0) pa_nil)) (pe_one (pe_chain op_le op_le (pv 1) (pv 0) (pv 2)))))), ok_body (Z := ⟨K, κ⟩) (O := []) (js_ret (JD.w (j_andV (j_callV via_id (ja_cons (j_var nin) ja_nil) (len_cons (fun _ _ _ _ h => len_nil h))) (j_chain r_le r_le (j_var nin) (j_var nin) (j_var nin))))) (fun _ m => absurd m List.not_mem_nil) h⟩)
theorem ok_lesser {f : Addr} {fd : FuncData} (F : Fun K "lesser" "lesser" s_lesser f fd) (T : TxD2 mg) : FnOk P w K mg base CX0 1 f fd P_lesser (spD ⟨K, κ⟩ 2 L_lesser) := by
  exact F.ok sc_lesser (fun vs H Q E h => h.1) (fun cdv A outer s H vs Q E hr h => ⟨_, (pss_one (ps_ret (pe_ifExp (pt_cmpR op_le (pv 0) (pv 1) (nomark _)) (pv 0) (pv 1)))), ok_body (Z := ⟨K, κ⟩) (O := []) (js_ret (JD.w (j_if (jb_test (j_op upD r_le (j_var nin) (j_var nin))) (j_var nin) (j_var nin)))) (fun _ m => absurd m List.not_mem_nil) h⟩)
theorem ok_greater {f : Addr} {fd : FuncData} (F : Fun K "greater" "greater" s_greater f fd) (T : TxD2 mg) : FnOk P w K mg base CX0 1 f fd P_greater (spD ⟨K, κ⟩ 2 L_greater) := by
  exact F.ok sc_greater (fun vs H Q E h => h.1) (fun cdv A outer s H vs Q E hr h => ⟨_, (pss_one (ps_ret (pe_ifExp (pt_cmpR op_ge (pv 0) (pv 1) (nomark _)) (pv 0) (pv 1)))), ok_body (Z := ⟨K, κ⟩) (O := []) (js_ret (JD.w (j_if (jb_test (j_op upD r_ge (j_var nin) (j_var nin))) (j_var nin) (j_var nin)))) (fun _ m => absurd m List.not_mem_nil) h⟩)
theorem ok_is_name {f : Addr} {fd : FuncData} (F : Fun K "is_name" "is_name" s_is_name f fd) (T : TxD2 mg) (TN : TxN mg n_MOST_LETTERS n_LEAST_NARROW n_MOST_PACE n_MOST_IN_TWO_EVENTS) : FnOk P w K mg base CX0 1 f fd P_is_name (spD ⟨K, κ⟩ 1 L_is_name) := by
  exact F.ok sc_is_name (fun vs H Q E h => h.1) (fun cdv A outer s H vs Q E hr h => ⟨_, (pss_cons (ps_if (PW.pt (pw_or (pt_not (pt_val (pe_callB call_isi (by rfl) T.n_isinstance (by decide +kernel) (pa_cons (pv 0) (pa_cons (pe_bltn (v := .ty "str") (by rfl) T.n_str (by decide +kernel) rfl) pa_nil))))) (pw_or1 (pt_cmpR op_gt (pe_callB call_len_str (by rfl) T.n_len (by decide +kernel) (pa_cons (pv 0) pa_nil)) (pe_glob (v := .int 8) rfl TN.g_MOST_LETTERS ⟨_, rfl⟩) (nomark _))))) (pss_one (ps_ret pe_bl)) pss_nil)
      (pss_one (ps_ret (pe_and (pe_m0 PySem.F.slot_str_isascii PySem.F.type_str_isascii mt_isascii (pv 0)) (pe_and (pe_m0 PySem.F.slot_str_isalpha PySem.F.type_str_isalpha mt_isalpha (pv 0)) (pe_one (pe_m0 PySem.F.slot_str_islower PySem.F.type_str_islower mt_islower (pv 0)))))))), ok_body (Z := ⟨K, κ⟩) (O := []) (js_seq (js_if (jb_or (jb_not (jb_B (j_cb c_isi (ja_consW (JD.w (j_var nin)) (ja_cons j_ty ja_nil))))) (jb_test (j_op upD r_gt (j_cb c_lenS (ja_cons (j_var nin) ja_nil)) j_int))) (js_ret (JD.w j_bl)) js_next)
      (js_ret (JD.w (j_andV (j_m0 (fun _ _ _ h => m0_isascii h) (j_var nin)) (j_andV (j_m0 (fun _ _ _ h => m0_isalpha h) (j_var nin)) (j_m0 (fun _ _ _ h => m0_islower h) (j_var nin))))))) (fun _ m => absurd m List.not_mem_nil) h⟩)
theorem ok_is_tuple_of {f : Addr} {fd : FuncData} (F : Fun K "is_tuple_of" "is_tuple_of" s_is_tuple_of f fd) (T : TxD2 mg) : FnOk P w K mg base CX0 1 f fd P_is_tuple_of (spD ⟨K, κ⟩ 3 L_is_tuple_of) := by
  exact F.ok sc_is_tuple_of (fun vs H Q E h => h.1) (fun cdv A outer s H vs Q E hr h => ⟨_, (pss_one (ps_ret (pe_and (pe_callB call_isi (by rfl) T.n_isinstance (by decide +kernel) (pa_cons (pv 0) (pa_cons (pe_bltn (v := .ty "tuple") (by rfl) T.n_tuple (by decide +kernel) rfl) pa_nil))) (pe_one (pe_chain op_le op_le (pv 1) (pe_callB call_len_seq (by rfl) T.n_len (by decide +kernel) (pa_cons (pv 0) pa_nil)) (pv 2)))))), ok_body (Z := ⟨K, κ⟩) (O := []) (js_ret (JD.w (j_andV (j_cb c_isi (ja_consW (JD.w (j_var nin)) (ja_cons j_ty ja_nil))) (j_chain r_le r_le (j_var nin) (j_cb c_len (ja_consW (JD.w (j_var nin)) ja_nil)) (j_var nin))))) (fun _ m => absurd m List.not_mem_nil) h⟩)
theorem ok_is_ascending {f : Addr} {fd : FuncData} (F : Fun K "is_ascending" "is_ascending" s_is_ascending f fd) (T : TxD2 mg) : FnOk P w K mg base CX0 1 f fd P_is_ascending (spD ⟨K, κ⟩ 1 L_is_ascending) := by
  exact F.ok sc_is_ascending (fun vs H Q E h => h.1) (fun cdv A outer s H vs Q E hr h => ⟨_, (pss_one (ps_ret (pe_callB (cr_all rfl) (by rfl) T.n_all (by decide +kernel) (pa_cons (pe_lc (own := [("one", 1), ("other", 2)]) (g := (gTup _ 2 (gCons (gName 1) (gCons (gName 2) gNil)))) (tt := tYes) rfl sc_is_ascending.nd (pi_zipG rfl T.n_zip (pa_cons (pv 0) (pa_cons (pe_slice sl_list (pv 0) (po_some pe_int) po_none) pa_nil))) (blkOk_by (N := N_is_ascending) (sc := defScope s_is_ascending) (by decide +kernel)) (fun _ _ _ _ _ => (pg_tup rfl (pgs_cons (pg_name (i := 1) sc_is_ascending.nd rfl (Or.inl rfl)) (pgs_cons (pg_name (i := 2) sc_is_ascending.nd rfl (Or.inl rfl)) pgs_nil)))) (fun _ _ _ _ _ => pts_nil) (fun _ _ _ _ _ => (pe_cmpR op_lt_str (pv 1) (pv 2) (nomark _)))) pa_nil)))), ok_body (Z := ⟨K, κ⟩) (O := []) (js_ret (JD.w (j_cb c_all (ja_consW (JD.w (j_lc (ji_zipG xCo (ja_cons (j_var nin) (ja_cons (j_slL (JD.w (j_var nin)) (jo_some j_int) jo_none) ja_nil))) (jg_tup (jg_cons (jg_name nin (fun w e => by cases e; decide)) (jg_cons (jg_name nin (fun w e => by cases e; decide)) jg_nil))) jb_yes (j_op upD r_ltS (j_var nin) (j_var nin)))) ja_nil)))) (fun _ m => absurd m List.not_mem_nil) h⟩)
theorem ok_is_ascendingT {f : Addr} {fd : FuncData} (F : Fun K "is_ascending" "is_ascending" s_is_ascending f fd) (T : TxD2 mg) : FnOk P w K mg base CX0 1 f fd P_is_ascending (spD ⟨K, κ⟩ 1 L_is_ascendingT) := by
  exact F.ok sc_is_ascending (fun vs H Q E h => h.1) (fun cdv A outer s H vs Q E hr h => ⟨_, (pss_one (ps_ret (pe_callB (cr_all rfl) (by rfl) T.n_all (by decide +kernel) (pa_cons (pe_lc (own := [("one", 1), ("other", 2)]) (g := (gTup _ 2 (gCons (gName 1) (gCons (gName 2) gNil)))) (tt := tYes) rfl sc_is_ascending.nd (pi_zipG rfl T.n_zip (pa_cons (pv 0) (pa_cons (pe_slice sl_tupA (pv 0) (po_some pe_int) po_none) pa_nil))) (blkOk_by (N := N_is_ascending) (sc := defScope s_is_ascending) (by decide +kernel)) (fun _ _ _ _ _ => (pg_tup rfl (pgs_cons (pg_name (i := 1) sc_is_ascending.nd rfl (Or.inl rfl)) (pgs_cons (pg_name (i := 2) sc_is_ascending.nd rfl (Or.inl rfl)) pgs_nil)))) (fun _ _ _ _ _ => pts_nil) (fun _ _ _ _ _ => (pe_cmpR op_lt_str (pv 1) (pv 2) (nomark _)))) pa_nil)))), ok_body (Z := ⟨K, κ⟩) (O := []) (js_ret (JD.w (j_cb c_all (ja_consW (JD.w (j_lc (ji_zipG xCo (ja_cons (j_var nin) (ja_cons (j_slT (j_var nin) (jo_some j_int) jo_none) ja_nil))) (jg_tup (jg_cons (jg_name nin (fun w e => by cases e; decide)) (jg_cons (jg_name nin (fun w e => by cases e; decide)) jg_nil))) jb_yes (j_op upD r_ltS (j_var nin) (j_var nin)))) ja_nil)))) (fun _ m => absurd m List.not_mem_nil) h⟩)
theorem ok_Kind___init__ {f : Addr} {fd : FuncData} (F : Fun K "__init__" "Kind.__init__" s_Kind___init__ f fd) (T : TxD2 mg) (cL_is_integer : Cal P w K mg base 1 "is_integer" P_is_integer (spD ⟨K, κ⟩ 1 L_is_integer)) (CT_Kind : ClsI K mg ⟨K, κ⟩ "Kind" "Kind" ["low", "high", "size"]) : FnOk P w K mg base CX0 2 f fd P_Kind___init__ (spD ⟨K, κ⟩ 3 L_Kind___init__) := by
  obtain ⟨f_is_integer, fd_is_integer, G_is_integer, b_is_integer, g_is_integer, k_is_integer⟩ := cL_is_integer
  exact F.ok sc_Kind___init__ (fun vs H Q E h => h.1) (fun cdv A outer s H vs Q E hr h => ⟨_, (pss_cons (ps_if (PW.pt (pw_or (pt_not (pt_val (pe_call G_is_integer (hr.mono (by decide)) rfl g_is_integer k_is_integer b_is_integer .nil pass0 (pa_cons (pv 1) pa_nil)))) (pw_or (pt_not (pt_val (pe_call G_is_integer (hr.mono (by decide)) rfl g_is_integer k_is_integer b_is_integer .nil pass0 (pa_cons (pv 2) pa_nil)))) (pw_or1 (pt_not (pt_chain op_le op_le (pv 1) pe_int (pv 2))))))) (pss_one ps_never) pss_nil)
      (pss_cons (ps_fld (pv 0) (pv 1) rfl)
      (pss_cons (ps_fld (pv 0) (pv 2) rfl)
      (pss_one (ps_fld (pv 0) (pe_op op_add (pe_op op_sub (pv 2) (pv 1)) pe_int) rfl))))), ok_body (Z := ⟨K, κ⟩) (O := []) (js_seq (js_if (jb_or (jb_not (jb_B (j_callV via_id (ja_cons (j_var nin) ja_nil) (len_cons (fun _ _ _ _ h => len_nil h))))) (jb_or (jb_not (jb_B (j_callV via_id (ja_cons (j_var nin) ja_nil) (len_cons (fun _ _ _ _ h => len_nil h))))) (jb_not (jb_test (j_chain r_le r_le (j_var nin) j_int (j_var nin)))))) js_never js_next)
      (js_seq (js_setFL CT_Kind.t (.head _) (j_var nin) (j_var nin))
      (js_seq (js_setFL CT_Kind.t (.tail _ (.head _)) (j_var nin) (j_var nin))
      (js_setFL CT_Kind.t (.tail _ (.tail _ (.head _))) (j_var nin) (j_op upD r_add (j_op upD r_sub (j_var nin) (j_var nin)) j_int))))) (fun _ m => absurd m List.not_mem_nil) h⟩)
theorem ok_Kind___le__ {f : Addr} {fd : FuncData} (F : Fun K "__le__" "Kind.__le__" s_Kind___le__ f fd) (T : TxD2 mg) (CT_Kind : ClsI K mg ⟨K, κ⟩ "Kind" "Kind" ["low", "high", "size"]) : FnOk P w K mg base CX0 1 f fd P_Kind___le__ (spD ⟨K, κ⟩ 2 L_Kind___le__) := by
  exact F.ok sc_Kind___le__ (fun vs H Q E h => h.1) (fun cdv A outer s H vs Q E hr h => ⟨_, (pss_cons (ps_if (pt_not (pt_val (pe_callB call_isi (by rfl) T.n_isinstance (by decide +kernel) (pa_cons (pv 1) (pa_cons (pe_glob (v := .ref (κ "Kind")) rfl CT_Kind.g rfl) pa_nil))))) (pss_one ps_never) pss_nil)
      (pss_one (ps_ret (pe_and (pe_cmpR op_le (pe_fld (pv 1) rfl) (pe_fld (pv 0) rfl) (nomark _)) (pe_one (pe_cmpR op_le (pe_fld (pv 0) rfl) (pe_fld (pv 1) rfl) (nomark _))))))), ok_body (Z := ⟨K, κ⟩) (O := []) (js_seq (js_if (jb_not (jb_B (j_cb (c_isiI CT_Kind.i) (ja_cons (j_var nin) (ja_cons j_cls ja_nil))))) js_never js_next)
      (js_ret (JD.w (j_andV (j_op upD r_le (j_fldI CT_Kind.t (.head _) (j_var nin)) (j_fldI CT_Kind.t (.head _) (j_var nin))) (j_op upD r_le (j_fldI CT_Kind.t (.tail _ (.head _)) (j_var nin)) (j_fldI CT_Kind.t (.tail _ (.head _)) (j_var nin))))))) (fun _ m => absurd m List.not_mem_nil) h⟩)
theorem ok_Kind___eq__ {f : Addr} {fd : FuncData} (F : Fun K "__eq__" "Kind.__eq__" s_Kind___eq__ f fd) (T : TxD2 mg) (CT_Kind : ClsI K mg ⟨K, κ⟩ "Kind" "Kind" ["low", "high", "size"]) : FnOk P w K mg base CX0 1 f fd P_Kind___eq__ (spD ⟨K, κ⟩ 2 L_Kind___eq__) := by
  exact F.ok sc_Kind___eq__ (fun vs H Q E h => h.1) (fun cdv A outer s H vs Q E hr h => ⟨_, (pss_one (ps_ret (pe_and (pe_callB call_isi (by rfl) T.n_isinstance (by decide +kernel) (pa_cons (pv 1) (pa_cons (pe_glob (v := .ref (κ "Kind")) rfl CT_Kind.g rfl) pa_nil))) (pe_and (pe_cmpR op_eq (pe_fld (pv 0) rfl) (pe_fld (pv 1) rfl) (nomark _)) (pe_one (pe_cmpR op_eq (pe_fld (pv 0) rfl) (pe_fld (pv 1) rfl) (nomark _))))))), ok_body (Z := ⟨K, κ⟩) (O := []) (js_ret (JD.w (j_andV (j_cb (c_isiI CT_Kind.i) (ja_cons (j_var nin) (ja_cons j_cls ja_nil))) (j_andV (j_op upD r_eq (j_fldI CT_Kind.t (.head _) (j_var nin)) (j_fldI CT_Kind.t (.head _) (j_var nin))) (j_op upD r_eq (j_fldI CT_Kind.t (.tail _ (.head _)) (j_var nin)) (j_fldI CT_Kind.t (.tail _ (.head _)) (j_var nin))))))) (fun _ m => absurd m List.not_mem_nil) h⟩)
theorem ok_Kind___lt__ {f : Addr} {fd : FuncData} (F : Fun K "__lt__" "Kind.__lt__" s_Kind___lt__ f fd) (T : TxD2 mg) (CT_Kind : ClsI K mg ⟨K, κ⟩ "Kind" "Kind" ["low", "high", "size"]) (cL_Kind___le__ : MeI P w K mg base ⟨K, κ⟩ 1 "Kind" "__le__" P_Kind___le__ (spD ⟨K, κ⟩ 2 L_Kind___le__)) (cL_Kind___eq__ : MeI P w K mg base ⟨K, κ⟩ 1 "Kind" "__eq__" P_Kind___eq__ (spD ⟨K, κ⟩ 2 L_Kind___eq__)) : FnOk P w K mg base CX0 2 f fd P_Kind___lt__ (spD ⟨K, κ⟩ 2 L_Kind___lt__) := by
  obtain ⟨f_Kind___le__, fd_Kind___le__, M_Kind___le__, G_Kind___le__, b_Kind___le__⟩ := cL_Kind___le__
  obtain ⟨f_Kind___eq__, fd_Kind___eq__, M_Kind___eq__, G_Kind___eq__, b_Kind___eq__⟩ := cL_Kind___eq__
  exact F.ok sc_Kind___lt__ (fun vs H Q E h => h.1) (fun cdv A outer s H vs Q E hr h => ⟨_, (pss_cons (ps_if (pt_not (pt_val (pe_callB call_isi (by rfl) T.n_isinstance (by decide +kernel) (pa_cons (pv 1) (pa_cons (pe_glob (v := .ref (κ "Kind")) rfl CT_Kind.g rfl) pa_nil))))) (pss_one ps_never) pss_nil)
      (pss_one (ps_ret (pe_and (pe_cmpR (op_cmpI (fun _ _ => rfl) M_Kind___le__.at_ M_Kind___le__.fn G_Kind___le__ (hr.mono (by decide)) b_Kind___le__ pass0) (pv 0) (pv 1) (nomark _)) (pe_one (pe_not (pe_cmpR (op_cmpI (fun _ _ => rfl) M_Kind___eq__.at_ M_Kind___eq__.fn G_Kind___eq__ (hr.mono (by decide)) b_Kind___eq__ pass0) (pv 0) (pv 1) (nomark _)))))))), ok_body (Z := ⟨K, κ⟩) (O := []) (js_seq (js_if (jb_not (jb_B (j_cb (c_isiI CT_Kind.i) (ja_cons (j_var nin) (ja_cons j_cls ja_nil))))) js_never js_next)
      (js_ret (JD.w (j_andV (j_op upD (r_own2 via_id) (j_var nin) (j_var nin)) (j_notV (j_op upD (r_own2 via_id) (j_var nin) (j_var nin))))))) (fun _ m => absurd m List.not_mem_nil) h⟩)
theorem ok__are_kinds {f : Addr} {fd : FuncData} (F : Fun K "_are_kinds" "_are_kinds" s__are_kinds f fd) (T : TxD2 mg) (TN : TxN mg n_MOST_LETTERS n_LEAST_NARROW n_MOST_PACE n_MOST_IN_TWO_EVENTS) (CT_Kind : ClsI K mg ⟨K, κ⟩ "Kind" "Kind" ["low", "high", "size"]) (cL_Kind___lt__ : MeI P w K mg base ⟨K, κ⟩ 2 "Kind" "__lt__" P_Kind___lt__ (spD ⟨K, κ⟩ 2 L_Kind___lt__)) : FnOk P w K mg base CX0 3 f fd P__are_kinds (spD ⟨K, κ⟩ 2 L__are_kinds) := by
  obtain ⟨f_Kind___lt__, fd_Kind___lt__, M_Kind___lt__, G_Kind___lt__, b_Kind___lt__⟩ := cL_Kind___lt__
  exact F.ok sc__are_kinds (fun vs H Q E h => h.1) (fun cdv A outer s H vs Q E hr h => ⟨_, (pss_cons (ps_if (PW.pt (pw_or (pt_not (pt_val (pe_callB call_isi (by rfl) T.n_isinstance (by decide +kernel) (pa_cons (pv 0) (pa_cons (pe_glob (v := .ref (κ "Kind")) rfl CT_Kind.g rfl) pa_nil))))) (pw_or1 (pt_not (pt_val (pe_callB call_isi (by rfl) T.n_isinstance (by decide +kernel) (pa_cons (pv 1) (pa_cons (pe_glob (v := .ref (κ "Kind")) rfl CT_Kind.g rfl) pa_nil)))))))) (pss_one (ps_ret pe_bl)) pss_nil)
      (pss_one (ps_ret (pe_and (pe_cmpR (op_cmpI (fun _ _ => rfl) M_Kind___lt__.at_ M_Kind___lt__.fn G_Kind___lt__ (hr.mono (by decide)) b_Kind___lt__ pass0) (pv 0) (pv 1) (nomark _)) (pe_one (pe_cmpR op_ge (pe_fld (pv 0) rfl) (pe_glob (v := .int 16) rfl TN.g_LEAST_NARROW ⟨_, rfl⟩) (nomark _))))))), ok_body (Z := ⟨K, κ⟩) (O := []) (js_seq (js_if (jb_or (jb_not (jb_B (j_cb (c_isiI CT_Kind.i) (ja_cons (j_var nin) (ja_cons j_cls ja_nil))))) (jb_not (jb_B (j_cb (c_isiI CT_Kind.i) (ja_cons (j_var nin) (ja_cons j_cls ja_nil)))))) (js_ret (JD.w j_bl)) js_next)
      (js_ret (JD.w (j_andV (j_op upD (r_own2 via_id) (j_var nin) (j_var nin)) (j_op upD r_ge (j_fldI CT_Kind.t (.tail _ (.tail _ (.head _))) (j_var nin)) j_int))))) (fun _ m => absurd m List.not_mem_nil) h⟩)
theorem ok__are_columns {f : Addr} {fd : FuncData} (F : Fun K "_are_columns" "_are_columns" s__are_columns f fd) (T : TxD2 mg) (cL_is_tuple_of : Cal P w K mg base 1 "is_tuple_of" P_is_tuple_of (spD ⟨K, κ⟩ 3 L_is_tuple_of)) (cL_is_name : Cal P w K mg base 1 "is_name" P_is_name (spD ⟨K, κ⟩ 1 L_is_name)) (cL_is_ascendingT : Cal P w K mg base 1 "is_ascending" P_is_ascending (spD ⟨K, κ⟩ 1 L_is_ascendingT)) : FnOk P w K mg base CX0 2 f fd P__are_columns (spD ⟨K, κ⟩ 1 L__are_columns) := by
  obtain ⟨f_is_tuple_of, fd_is_tuple_of, G_is_tuple_of, b_is_tuple_of, g_is_tuple_of, k_is_tuple_of⟩ := cL_is_tuple_of
  obtain ⟨f_is_name, fd_is_name, G_is_name, b_is_name, g_is_name, k_is_name⟩ := cL_is_name
  obtain ⟨f_is_ascending, fd_is_ascending, G_is_ascending, b_is_ascending, g_is_ascending, k_is_ascending⟩ := cL_is_ascendingT
  exact F.ok sc__are_columns (fun vs H Q E h => h.1) (fun cdv A outer s H vs Q E hr h => ⟨_, (pss_cons (ps_if (PW.pt (pw_or (pt_not (pt_val (pe_call G_is_tuple_of (hr.mono (by decide)) rfl g_is_tuple_of k_is_tuple_of b_is_tuple_of .nil pass0 (pa_cons (pv 0) (pa_cons pe_int (pa_cons pe_int pa_nil)))))) (pw_or1 (pt_not (pt_val (pe_callB (cr_all rfl) (by rfl) T.n_all (by decide +kernel) (pa_cons (pe_lc (own := [("column", 1)]) (g := (gName 1)) (tt := tYes) rfl sc__are_columns.nd (pi_tup (pv 0)) (blkOk_by (N := N__are_columns) (sc := defScope s__are_columns) (by decide +kernel)) (fun _ _ _ _ _ => (pg_name (i := 1) sc__are_columns.nd rfl (Or.inl rfl))) (fun _ _ _ _ _ => pts_nil) (fun _ _ _ _ _ => (pe_call G_is_name (hr.mono (by decide)) rfl g_is_name k_is_name b_is_name .nil pass0 (pa_cons (pv 1) pa_nil)))) pa_nil))))))) (pss_one (ps_ret pe_bl)) pss_nil)
      (pss_one (ps_ret (pe_call G_is_ascending (hr.mono (by decide)) rfl g_is_ascending k_is_ascending b_is_ascending .nil pass0 (pa_cons (pv 0) pa_nil))))), ok_body (Z := ⟨K, κ⟩) (O := []) (js_seq (js_if (jb_or (jb_not (jb_B (j_callV via_id (ja_cons (j_var nin) (ja_cons j_int (ja_cons j_int ja_nil))) (len_cons (len_cons (len_cons (fun _ _ _ _ h => len_nil h))))))) (jb_not (jb_B (j_cb c_all (ja_consW (JD.w (j_lc (ji_tup xCo (j_var nin)) (jg_name nin (fun w e => by cases e; decide)) jb_yes (j_callV via_id (ja_cons (j_var nin) ja_nil) (len_cons (fun _ _ _ _ h => len_nil h))))) ja_nil))))) (js_ret (JD.w j_bl)) js_next)
      (js_ret (JD.w (j_callV via_id (ja_cons (j_var nin) ja_nil) (len_cons (fun _ _ _ _ h => len_nil h)))))) (fun _ m => absurd m List.not_mem_nil) h⟩)
theorem ok__are_rows {f : Addr} {fd : FuncData} (F : Fun K "_are_rows" "_are_rows" s__are_rows f fd) (T : TxD2 mg) (cL_is_tuple_of : Cal P w K mg base 1 "is_tuple_of" P_is_tuple_of (spD ⟨K, κ⟩ 3 L_is_tuple_of)) (cL_is_ascending : Cal P w K mg base 1 "is_ascending" P_is_ascending (spD ⟨K, κ⟩ 1 L_is_ascending)) : FnOk P w K mg base CX0 2 f fd P__are_rows (spD ⟨K, κ⟩ 3 L__are_rows) := by
  obtain ⟨f_is_tuple_of, fd_is_tuple_of, G_is_tuple_of, b_is_tuple_of, g_is_tuple_of, k_is_tuple_of⟩ := cL_is_tuple_of
  obtain ⟨f_is_ascending, fd_is_ascending, G_is_ascending, b_is_ascending, g_is_ascending, k_is_ascending⟩ := cL_is_ascending
  exact F.ok sc__are_rows (fun vs H Q E h => h.1) (fun cdv A outer s H vs Q E hr h => ⟨_, (pss_cons (ps_if (pt_not (pt_val (pe_callB call_isi (by rfl) T.n_isinstance (by decide +kernel) (pa_cons (pv 1) (pa_cons (pe_bltn (v := .ty "tuple") (by rfl) T.n_tuple (by decide +kernel) rfl) pa_nil))))) (pss_one (ps_ret pe_bl)) pss_nil)
      (pss_cons (ps_for PassesOwn.never rfl (pi_tup (pv 1)) (pg_name (i := 3) sc__are_rows.nd rfl (Or.inl rfl)) (pss_one (ps_if (PW.pt (pw_or (pt_not (pt_val (pe_call G_is_tuple_of (hr.mono (by decide)) rfl g_is_tuple_of k_is_tuple_of b_is_tuple_of .nil pass0 (pa_cons (pv 3) (pa_cons (pv 2) (pa_cons (pv 2) pa_nil)))))) (pw_or1 (pt_cmpR (op_inS (neg := true) (Z := ⟨K, κ⟩) (hu70 hr) rfl) (pe_ix ix_tup (pv 3) pe_int (fun _ _ => rfl)) (pv 0) rfl)))) (pss_one (ps_ret pe_bl)) pss_nil)))
      (pss_one (ps_ret (pe_call G_is_ascending (hr.mono (by decide)) rfl g_is_ascending k_is_ascending b_is_ascending .nil pass0 (pa_cons (pe_lc (own := [("row", 3)]) (g := (gName 3)) (tt := tYes) rfl sc__are_rows.nd (pi_tup (pv 1)) (blkOk_by (N := N__are_rows) (sc := defScope s__are_rows) (by decide +kernel)) (fun _ _ _ _ _ => (pg_name (i := 3) sc__are_rows.nd rfl (Or.inl rfl))) (fun _ _ _ _ _ => pts_nil) (fun _ _ _ _ _ => (pe_ix ix_tup (pv 3) pe_int (fun _ _ => rfl)))) pa_nil)))))), ok_body (Z := ⟨K, κ⟩) (O := []) (js_seq (js_if (jb_not (jb_B (j_cb c_isi (ja_consW (JD.w (j_var nin)) (ja_cons j_ty ja_nil))))) (js_ret (JD.w j_bl)) js_next)
      (js_seq (js_for (ji_tup xS (j_var nin)) (jg_name nin nofun) (js_if (jb_or (jb_not (jb_B (j_callV via_id (ja_cons (j_var nin) (ja_cons (j_var nin) (ja_cons (j_var nin) ja_nil))) (len_cons (len_cons (len_cons (fun _ _ _ _ h => len_nil h))))))) (jb_test (j_op upD (r_inS (neg := true)) (j_op upD r_ixT (j_var nin) j_int) (JD.w (j_var nin))))) (js_ret (JD.w j_bl)) js_next))
      (js_ret (JD.w (j_callV via_id (ja_cons (j_lc (ji_tup xCo (j_var nin)) (jg_name nin (fun w e => by cases e; decide)) jb_yes (j_op upD r_ixT (j_var nin) j_int)) ja_nil) (len_cons (fun _ _ _ _ h => len_nil h))))))) (fun _ m => absurd m List.not_mem_nil) h⟩)
theorem ok__is_read {f : Addr} {fd : FuncData} (F : Fun K "_is_read" "_is_read" s__is_read f fd) (T : TxD2 mg) (GT_DEEDS : GTup K mg "DEEDS" a_DEEDS ["match", "order", "show"]) (GT_READ_SIDES : GTup K mg "READ_SIDES" a_READ_SIDES ["narrow", "wide", "either"]) (cL_is_ascendingT : Cal P w K mg base 1 "is_ascending" P_is_ascending (spD ⟨K, κ⟩ 1 L_is_ascendingT)) : FnOk P w K mg base CX0 2 f fd P__is_read (spD ⟨K, κ⟩ 1 L__is_read) := by
  obtain ⟨f_is_ascending, fd_is_ascending, G_is_ascending, b_is_ascending, g_is_ascending, k_is_ascending⟩ := cL_is_ascendingT
  exact F.ok sc__is_read (fun vs H Q E h => h.1) (fun cdv A outer s H vs Q E hr h => ⟨_, (pss_cons (ps_asg (pv 0) (pg_tup rfl (pgs_cons (pg_name (i := 1) sc__is_read.nd rfl (Or.inl rfl)) (pgs_cons (pg_name (i := 2) sc__is_read.nd rfl (Or.inl rfl)) (pgs_cons (pg_name (i := 3) sc__is_read.nd rfl (Or.inl rfl)) pgs_nil)))))
      (pss_cons (ps_if (PW.pt (pw_or (pt_cmpR (op_inS (neg := true) (Z := ⟨K, κ⟩) (hu70 hr) rfl) (pv 2) (pe_glob (v := .ref a_READ_SIDES) rfl GT_READ_SIDES.g rfl) rfl) (pw_or1 (pt_not (pt_val (pe_callB call_isi (by rfl) T.n_isinstance (by decide +kernel) (pa_cons (pv 3) (pa_cons (pe_bltn (v := .ty "tuple") (by rfl) T.n_tuple (by decide +kernel) rfl) pa_nil)))))))) (pss_one (ps_ret pe_bl)) pss_nil)
      (pss_one (ps_ret (pe_and (pe_callB (cr_all rfl) (by rfl) T.n_all (by decide +kernel) (pa_cons (pe_lc (own := [("deed", 4)]) (g := (gName 4)) (tt := tYes) rfl sc__is_read.nd (pi_tup (pv 3)) (blkOk_by (N := N__is_read) (sc := defScope s__is_read) (by decide +kernel)) (fun _ _ _ _ _ => (pg_name (i := 4) sc__is_read.nd rfl (Or.inl rfl))) (fun _ _ _ _ _ => pts_nil) (fun _ _ _ _ _ => (pe_cmpR (op_inS (neg := false) (Z := ⟨K, κ⟩) (hu70 hr) rfl) (pv 4) (pe_glob (v := .ref a_DEEDS) rfl GT_DEEDS.g rfl) rfl))) pa_nil)) (pe_one (pe_call G_is_ascending (hr.mono (by decide)) rfl g_is_ascending k_is_ascending b_is_ascending .nil pass0 (pa_cons (pv 3) pa_nil)))))))), ok_body (Z := ⟨K, κ⟩) (O := []) (js_seq (js_asg (j_var nin) (jg_tup (jg_cons (jg_name nin nofun) (jg_cons (jg_name nin nofun) (jg_cons (jg_name nin nofun) jg_nil)))))
      (js_seq (js_if (jb_or (jb_test (j_op upD (r_inS (neg := true)) (j_var nin) (JD.w (j_c GT_READ_SIDES.isD)))) (jb_not (jb_B (j_cb c_isi (ja_consW (JD.w (j_var nin)) (ja_cons j_ty ja_nil)))))) (js_ret (JD.w j_bl)) js_next)
      (js_ret (JD.w (j_andV (j_cb c_all (ja_consW (JD.w (j_lc (ji_tup xCo (j_var nin)) (jg_name nin (fun w e => by cases e; decide)) jb_yes (j_op upD (r_inS (neg := false)) (j_var nin) (JD.w (j_c GT_DEEDS.isD))))) ja_nil)) (j_callV via_id (ja_cons (j_var nin) ja_nil) (len_cons (fun _ _ _ _ h => len_nil h)))))))) (fun _ m => absurd m List.not_mem_nil) h⟩)
theorem ok__is_write {f : Addr} {fd : FuncData} (F : Fun K "_is_write" "_is_write" s__is_write f fd) (T : TxD2 mg) (GT_RULES : GTup K mg "RULES" a_RULES ["cut", "empty", "refuse"]) (GT_HOWS : GTup K mg "HOWS" a_HOWS ["narrow", "wide", "both", "narrow first", "wide first"]) (TN : TxN mg n_MOST_LETTERS n_LEAST_NARROW n_MOST_PACE n_MOST_IN_TWO_EVENTS) (cL_is_between : Cal P w K mg base 2 "is_between" P_is_between (spD ⟨K, κ⟩ 3 L_is_between)) : FnOk P w K mg base CX0 3 f fd P__is_write (spD ⟨K, κ⟩ 2 L__is_write) := by
  obtain ⟨f_is_between, fd_is_between, G_is_between, b_is_between, g_is_between, k_is_between⟩ := cL_is_between
  exact F.ok sc__is_write (fun vs H Q E h => h.1) (fun cdv A outer s H vs Q E hr h => ⟨_, (pss_cons (ps_asg (pv 1) (pg_tup rfl (pgs_cons (pg_name (i := 2) sc__is_write.nd rfl (Or.inl rfl)) (pgs_cons (pg_name (i := 3) sc__is_write.nd rfl (Or.inl rfl)) (pgs_cons (pg_name (i := 4) sc__is_write.nd rfl (Or.inl rfl)) (pgs_cons (pg_name (i := 5) sc__is_write.nd rfl (Or.inl rfl)) (pgs_cons (pg_name (i := 6) sc__is_write.nd rfl (Or.inl rfl)) pgs_nil)))))))
      (pss_cons (ps_if (PW.pt (pw_or (pt_cmpR (op_inS (neg := true) (Z := ⟨K, κ⟩) (hu70 hr) rfl) (pv 3) (pe_glob (v := .ref a_HOWS) rfl GT_HOWS.g rfl) rfl) (pw_or (pt_cmpR (op_inS (neg := true) (Z := ⟨K, κ⟩) (hu70 hr) rfl) (pv 4) (pe_glob (v := .ref a_RULES) rfl GT_RULES.g rfl) rfl) (pw_or1 (pt_not (pt_val (pe_call G_is_between (hr.mono (by decide)) rfl g_is_between k_is_between b_is_between .nil pass0 (pa_cons (pv 6) (pa_cons pe_int (pa_cons (pe_glob (v := .int 99) rfl TN.g_MOST_PACE ⟨_, rfl⟩) pa_nil)))))))))) (pss_one (ps_ret pe_bl)) pss_nil)
      (pss_one (ps_ret (pe_or (pe_cmpR op_eq (pv 5) pe_str (nomark _)) (pe_one (pe_and (pe_cmpR (op_inS (neg := false) (Z := ⟨K, κ⟩) (hu70 hr) rfl) (pv 5) (pv 0) rfl) (pe_one (pe_cmpR op_ne (pv 5) (pv 2) (nomark _)))))))))), ok_body (Z := ⟨K, κ⟩) (O := []) (js_seq (js_asg (j_var nin) (jg_tup (jg_cons (jg_name nin nofun) (jg_cons (jg_name nin nofun) (jg_cons (jg_name nin nofun) (jg_cons (jg_name nin nofun) (jg_cons (jg_name nin nofun) jg_nil)))))))
      (js_seq (js_if (jb_or (jb_test (j_op upD (r_inS (neg := true)) (j_var nin) (JD.w (j_c GT_HOWS.isD)))) (jb_or (jb_test (j_op upD (r_inS (neg := true)) (j_var nin) (JD.w (j_c GT_RULES.isD)))) (jb_not (jb_B (j_callV via_id (ja_cons (j_var nin) (ja_cons j_int (ja_cons j_int ja_nil))) (len_cons (len_cons (len_cons (fun _ _ _ _ h => len_nil h))))))))) (js_ret (JD.w j_bl)) js_next)
      (js_ret (JD.w (j_orV (j_op upD r_eq (j_var nin) j_str) (j_andV (j_op upD (r_inS (neg := false)) (j_var nin) (JD.w (j_var nin))) (j_op upD r_ne (j_var nin) (j_var nin)))))))) (fun _ m => absurd m List.not_mem_nil) h⟩)
theorem ok__is_edition {f : Addr} {fd : FuncData} (F : Fun K "_is_edition" "_is_edition" s__is_edition f fd) (T : TxD2 mg) (GT_SIDES : GTup K mg "SIDES" a_SIDES ["narrow", "wide"]) (cL_is_tuple_of : Cal P w K mg base 1 "is_tuple_of" P_is_tuple_of (spD ⟨K, κ⟩ 3 L_is_tuple_of)) (cL__are_rows : Cal P w K mg base 2 "_are_rows" P__are_rows (spD ⟨K, κ⟩ 3 L__are_rows)) (cL__is_read : Cal P w K mg base 2 "_is_read" P__is_read (spD ⟨K, κ⟩ 1 L__is_read)) (cL__is_write : Cal P w K mg base 3 "_is_write" P__is_write (spD ⟨K, κ⟩ 2 L__is_write)) : FnOk P w K mg base CX0 4 f fd P__is_edition (spD ⟨K, κ⟩ 2 L__is_edition) := by
  obtain ⟨f_is_tuple_of, fd_is_tuple_of, G_is_tuple_of, b_is_tuple_of, g_is_tuple_of, k_is_tuple_of⟩ := cL_is_tuple_of
  obtain ⟨f__are_rows, fd__are_rows, G__are_rows, b__are_rows, g__are_rows, k__are_rows⟩ := cL__are_rows
  obtain ⟨f__is_read, fd__is_read, G__is_read, b__is_read, g__is_read, k__is_read⟩ := cL__is_read
  obtain ⟨f__is_write, fd__is_write, G__is_write, b__is_write, g__is_write, k__is_write⟩ := cL__is_write
  exact F.ok sc__is_edition (fun vs H Q E h => h.1) (fun cdv A outer s H vs Q E hr h => ⟨_, (pss_cons (ps_if (pt_not (pt_val (pe_call G_is_tuple_of (hr.mono (by decide)) rfl g_is_tuple_of k_is_tuple_of b_is_tuple_of .nil pass0 (pa_cons (pv 1) (pa_cons pe_int (pa_cons pe_int pa_nil)))))) (pss_one (ps_ret pe_bl)) pss_nil)
      (pss_cons (ps_asg (pv 1) (pg_tup rfl (pgs_cons (pg_name (i := 2) sc__is_edition.nd rfl (Or.inl rfl)) (pgs_cons (pg_name (i := 3) sc__is_edition.nd rfl (Or.inl rfl)) (pgs_cons (pg_name (i := 4) sc__is_edition.nd rfl (Or.inl rfl)) pgs_nil)))))
      (pss_cons (ps_if (PW.pt (pw_or (pt_cmpR (op_inS (neg := true) (Z := ⟨K, κ⟩) (hu70 hr) rfl) (pv 2) (pe_glob (v := .ref a_SIDES) rfl GT_SIDES.g rfl) rfl) (pw_or (pt_not (pt_val (pe_call G__are_rows (hr.mono (by decide)) rfl g__are_rows k__are_rows b__are_rows .nil pass0 (pa_cons (pv 0) (pa_cons (pv 3) (pa_cons pe_int pa_nil)))))) (pw_or1 (pt_not (pt_val (pe_call G__are_rows (hr.mono (by decide)) rfl g__are_rows k__are_rows b__are_rows .nil pass0 (pa_cons (pv 0) (pa_cons (pv 4) (pa_cons pe_int pa_nil)))))))))) (pss_one (ps_ret pe_bl)) pss_nil)
      (pss_cons (ps_if (pt_not (pt_val (pe_callB (cr_all rfl) (by rfl) T.n_all (by decide +kernel) (pa_cons (pe_lc (own := [("row", 6)]) (g := (gName 6)) (tt := tYes) rfl sc__is_edition.nd (pi_tup (pv 3)) (blkOk_by (N := N__is_edition) (sc := defScope s__is_edition) (by decide +kernel)) (fun _ _ _ _ _ => (pg_name (i := 6) sc__is_edition.nd rfl (Or.inl rfl))) (fun _ _ _ _ _ => pts_nil) (fun _ _ _ _ _ => (pe_call G__is_read (hr.mono (by decide)) rfl g__is_read k__is_read b__is_read .nil pass0 (pa_cons (pv 6) pa_nil)))) pa_nil)))) (pss_one (ps_ret pe_bl)) pss_nil)
      (pss_cons (ps_set (i := 5) sc__is_edition.nd rfl (Or.inr rfl) (pe_lc (own := [("row", 6)]) (g := (gName 6)) (tt := tYes) rfl sc__is_edition.nd (pi_tup (pv 3)) (blkOk_by (N := N__is_edition) (sc := defScope s__is_edition) (by decide +kernel)) (fun _ _ _ _ _ => (pg_name (i := 6) sc__is_edition.nd rfl (Or.inl rfl))) (fun _ _ _ _ _ => pts_nil) (fun _ _ _ _ _ => (pe_ix ix_tup (pv 6) pe_int (fun _ _ => rfl)))))
      (pss_one (ps_ret (pe_callB (cr_all rfl) (by rfl) T.n_all (by decide +kernel) (pa_cons (pe_lc (own := [("row", 6)]) (g := (gName 6)) (tt := tYes) rfl sc__is_edition.nd (pi_tup (pv 4)) (blkOk_by (N := N__is_edition) (sc := defScope s__is_edition) (by decide +kernel)) (fun _ _ _ _ _ => (pg_name (i := 6) sc__is_edition.nd rfl (Or.inl rfl))) (fun _ _ _ _ _ => pts_nil) (fun _ _ _ _ _ => (pe_call G__is_write (hr.mono (by decide)) rfl g__is_write k__is_write b__is_write .nil pass0 (pa_cons (pv 5) (pa_cons (pv 6) pa_nil))))) pa_nil))))))))), ok_body (Z := ⟨K, κ⟩) (O := []) (js_seq (js_if (jb_not (jb_B (j_callV via_id (ja_cons (j_var nin) (ja_cons j_int (ja_cons j_int ja_nil))) (len_cons (len_cons (len_cons (fun _ _ _ _ h => len_nil h))))))) (js_ret (JD.w j_bl)) js_next)
      (js_seq (js_asg (j_var nin) (jg_tup (jg_cons (jg_name nin nofun) (jg_cons (jg_name nin nofun) (jg_cons (jg_name nin nofun) jg_nil)))))
      (js_seq (js_if (jb_or (jb_test (j_op upD (r_inS (neg := true)) (j_var nin) (JD.w (j_c GT_SIDES.isD)))) (jb_or (jb_not (jb_B (j_callV via_id (ja_cons (j_var nin) (ja_cons (j_var nin) (ja_cons j_int ja_nil))) (len_cons (len_cons (len_cons (fun _ _ _ _ h => len_nil h))))))) (jb_not (jb_B (j_callV via_id (ja_cons (j_var nin) (ja_cons (j_var nin) (ja_cons j_int ja_nil))) (len_cons (len_cons (len_cons (fun _ _ _ _ h => len_nil h))))))))) (js_ret (JD.w j_bl)) js_next)
      (js_seq (js_if (jb_not (jb_B (j_cb c_all (ja_consW (JD.w (j_lc (ji_tup xCo (j_var nin)) (jg_name nin (fun w e => by cases e; decide)) jb_yes (j_callV via_id (ja_cons (j_var nin) ja_nil) (len_cons (fun _ _ _ _ h => len_nil h))))) ja_nil)))) (js_ret (JD.w j_bl)) js_next)
      (js_seq (js_asg (j_lc (ji_tup xCo (j_var nin)) (jg_name nin (fun w e => by cases e; decide)) jb_yes (j_op upD r_ixT (j_var nin) j_int)) (jg_name nin nofun))
      (js_ret (JD.w (j_cb c_all (ja_consW (JD.w (j_lc (ji_tup xCo (j_var nin)) (jg_name nin (fun w e => by cases e; decide)) jb_yes (j_callV via_id (ja_cons (j_var nin) (ja_cons (j_var nin) ja_nil)) (len_cons (len_cons (fun _ _ _ _ h => len_nil h)))))) ja_nil))))))))) (fun _ m => absurd m List.not_mem_nil) h⟩)
theorem ok__is_first_edition {f : Addr} {fd : FuncData} (F : Fun K "_is_first_edition" "_is_first_edition" s__is_first_edition f fd) (T : TxD2 mg) : FnOk P w K mg base CX0 1 f fd P__is_first_edition (spD ⟨K, κ⟩ 1 L__is_first_edition) := by
  exact F.ok sc__is_first_edition (fun vs H Q E h => h.1) (fun cdv A outer s H vs Q E hr h => ⟨_, (pss_cons (ps_asg (pv 0) (pg_tup rfl (pgs_cons (pg_name (i := 1) sc__is_first_edition.nd rfl (Or.inl rfl)) (pgs_cons (pg_name (i := 2) sc__is_first_edition.nd rfl (Or.inl rfl)) (pgs_cons (pg_name (i := 3) sc__is_first_edition.nd rfl (Or.inl rfl)) pgs_nil)))))
      (pss_cons (ps_if (pt_not (pt_val (pe_callB (cr_all rfl) (by rfl) T.n_all (by decide +kernel) (pa_cons (pe_lc (own := [("row", 4)]) (g := (gName 4)) (tt := tYes) rfl sc__is_first_edition.nd (pi_tup (pv 2)) (blkOk_by (N := N__is_first_edition) (sc := defScope s__is_first_edition) (by decide +kernel)) (fun _ _ _ _ _ => (pg_name (i := 4) sc__is_first_edition.nd rfl (Or.inl rfl))) (fun _ _ _ _ _ => pts_nil) (fun _ _ _ _ _ => (pe_cmpR (op_inS (neg := false) (Z := ⟨K, κ⟩) (hu70 hr) rfl) (pe_ix ix_tup (pv 4) pe_int (fun _ _ => rfl)) (pe_tup (pa_cons pe_str (pa_cons pe_str pa_nil))) rfl))) pa_nil)))) (pss_one (ps_ret pe_bl)) pss_nil)
      (pss_one (ps_ret (pe_callB (cr_all rfl) (by rfl) T.n_all (by decide +kernel) (pa_cons (pe_lc (own := [("row", 4)]) (g := (gName 4)) (tt := tYes) rfl sc__is_first_edition.nd (pi_tup (pv 3)) (blkOk_by (N := N__is_first_edition) (sc := defScope s__is_first_edition) (by decide +kernel)) (fun _ _ _ _ _ => (pg_name (i := 4) sc__is_first_edition.nd rfl (Or.inl rfl))) (fun _ _ _ _ _ => pts_nil) (fun _ _ _ _ _ => (pe_cmpR op_eq (pe_ix ix_tup (pv 4) pe_int (fun _ _ => rfl)) pe_str (nomark _)))) pa_nil)))))), ok_body (Z := ⟨K, κ⟩) (O := []) (js_seq (js_asg (j_var nin) (jg_tup (jg_cons (jg_name nin nofun) (jg_cons (jg_name nin nofun) (jg_cons (jg_name nin nofun) jg_nil)))))
      (js_seq (js_if (jb_not (jb_B (j_cb c_all (ja_consW (JD.w (j_lc (ji_tup xCo (j_var nin)) (jg_name nin (fun w e => by cases e; decide)) jb_yes (j_op upD (r_inS (neg := false)) (j_op upD r_ixT (j_var nin) j_int) (JD.w (j_tup (ja_cons j_str (ja_cons j_str ja_nil))))))) ja_nil)))) (js_ret (JD.w j_bl)) js_next)
      (js_ret (JD.w (j_cb c_all (ja_consW (JD.w (j_lc (ji_tup xCo (j_var nin)) (jg_name nin (fun w e => by cases e; decide)) jb_yes (j_op upD r_eq (j_op upD r_ixT (j_var nin) j_int) j_str))) ja_nil)))))) (fun _ m => absurd m List.not_mem_nil) h⟩)
theorem ok__is_program {f : Addr} {fd : FuncData} (F : Fun K "_is_program" "_is_program" s__is_program f fd) (T : TxD2 mg) (cL_is_tuple_of : Cal P w K mg base 1 "is_tuple_of" P_is_tuple_of (spD ⟨K, κ⟩ 3 L_is_tuple_of)) (cL_is_name : Cal P w K mg base 1 "is_name" P_is_name (spD ⟨K, κ⟩ 1 L_is_name)) (cL__is_edition : Cal P w K mg base 4 "_is_edition" P__is_edition (spD ⟨K, κ⟩ 2 L__is_edition)) (cL__is_first_edition : Cal P w K mg base 1 "_is_first_edition" P__is_first_edition (spD ⟨K, κ⟩ 1 L__is_first_edition)) : FnOk P w K mg base CX0 5 f fd P__is_program (spD ⟨K, κ⟩ 2 L__is_program) := by
  obtain ⟨f_is_tuple_of, fd_is_tuple_of, G_is_tuple_of, b_is_tuple_of, g_is_tuple_of, k_is_tuple_of⟩ := cL_is_tuple_of
  obtain ⟨f_is_name, fd_is_name, G_is_name, b_is_name, g_is_name, k_is_name⟩ := cL_is_name
  obtain ⟨f__is_edition, fd__is_edition, G__is_edition, b__is_edition, g__is_edition, k__is_edition⟩ := cL__is_edition
  obtain ⟨f__is_first_edition, fd__is_first_edition, G__is_first_edition, b__is_first_edition, g__is_first_edition, k__is_first_edition⟩ := cL__is_first_edition
  exact F.ok sc__is_program (fun vs H Q E h => h.1) (fun cdv A outer s H vs Q E hr h => ⟨_, (pss_cons (ps_if (pt_not (pt_val (pe_call G_is_tuple_of (hr.mono (by decide)) rfl g_is_tuple_of k_is_tuple_of b_is_tuple_of .nil pass0 (pa_cons (pv 1) (pa_cons pe_int (pa_cons pe_int pa_nil)))))) (pss_one (ps_ret pe_bl)) pss_nil)
      (pss_cons (ps_asg (pv 1) (pg_tup rfl (pgs_cons (pg_name (i := 2) sc__is_program.nd rfl (Or.inl rfl)) (pgs_cons (pg_name (i := 3) sc__is_program.nd rfl (Or.inl rfl)) pgs_nil))))
      (pss_cons (ps_if (PW.pt (pw_or (pt_not (pt_val (pe_call G_is_name (hr.mono (by decide)) rfl g_is_name k_is_name b_is_name .nil pass0 (pa_cons (pv 2) pa_nil)))) (pw_or1 (pt_not (pt_val (pe_call G_is_tuple_of (hr.mono (by decide)) rfl g_is_tuple_of k_is_tuple_of b_is_tuple_of .nil pass0 (pa_cons (pv 3) (pa_cons pe_int (pa_cons pe_int pa_nil))))))))) (pss_one (ps_ret pe_bl)) pss_nil)
      (pss_cons (ps_if (pt_not (pt_val (pe_callB (cr_all rfl) (by rfl) T.n_all (by decide +kernel) (pa_cons (pe_lc (own := [("edition", 4)]) (g := (gName 4)) (tt := tYes) rfl sc__is_program.nd (pi_tup (pv 3)) (blkOk_by (N := N__is_program) (sc := defScope s__is_program) (by decide +kernel)) (fun _ _ _ _ _ => (pg_name (i := 4) sc__is_program.nd rfl (Or.inl rfl))) (fun _ _ _ _ _ => pts_nil) (fun _ _ _ _ _ => (pe_call G__is_edition (hr.mono (by decide)) rfl g__is_edition k__is_edition b__is_edition .nil pass0 (pa_cons (pv 0) (pa_cons (pv 4) pa_nil))))) pa_nil)))) (pss_one (ps_ret pe_bl)) pss_nil)
      (pss_one (ps_ret (pe_call G__is_first_edition (hr.mono (by decide)) rfl g__is_first_edition k__is_first_edition b__is_first_edition .nil pass0 (pa_cons (pe_ix ix_tup (pv 3) pe_int (fun _ _ => rfl)) pa_nil)))))))), ok_body (Z := ⟨K, κ⟩) (O := []) (js_seq (js_if (jb_not (jb_B (j_callV via_id (ja_cons (j_var nin) (ja_cons j_int (ja_cons j_int ja_nil))) (len_cons (len_cons (len_cons (fun _ _ _ _ h => len_nil h))))))) (js_ret (JD.w j_bl)) js_next)
      (js_seq (js_asg (j_var nin) (jg_tup (jg_cons (jg_name nin nofun) (jg_cons (jg_name nin nofun) jg_nil))))
      (js_seq (js_if (jb_or (jb_not (jb_B (j_callV via_id (ja_cons (j_var nin) ja_nil) (len_cons (fun _ _ _ _ h => len_nil h))))) (jb_not (jb_B (j_callV via_id (ja_cons (j_var nin) (ja_cons j_int (ja_cons j_int ja_nil))) (len_cons (len_cons (len_cons (fun _ _ _ _ h => len_nil h)))))))) (js_ret (JD.w j_bl)) js_next)
      (js_seq (js_if (jb_not (jb_B (j_cb c_all (ja_consW (JD.w (j_lc (ji_tup xCo (j_var nin)) (jg_name nin (fun w e => by cases e; decide)) jb_yes (j_callV via_id (ja_cons (j_var nin) (ja_cons (j_var nin) ja_nil)) (len_cons (len_cons (fun _ _ _ _ h => len_nil h)))))) ja_nil)))) (js_ret (JD.w j_bl)) js_next)
      (js_ret (JD.w (j_callV via_id (ja_cons (j_op upD r_ixT (j_var nin) j_int) ja_nil) (len_cons (fun _ _ _ _ h => len_nil h))))))))) (fun _ m => absurd m List.not_mem_nil) h⟩)
theorem ok__many_in_two_events {f : Addr} {fd : FuncData} (F : Fun K "_many_in_two_events" "_many_in_two_events" s__many_in_two_events f fd) (T : TxD2 mg) (GT_IN_TWO_EVENTS : GTup K mg "IN_TWO_EVENTS" a_IN_TWO_EVENTS ["narrow first", "wide first"]) : FnOk P w K mg base CX0 1 f fd P__many_in_two_events (spD ⟨K, κ⟩ 1 L__many_in_two_events) := by
  exact F.ok sc__many_in_two_events (fun vs H Q E h => h.1) (fun cdv A outer s H vs Q E hr h => ⟨_, (pss_cons (ps_set (i := 1) sc__many_in_two_events.nd rfl (Or.inl rfl) pe_int)
      (pss_cons (ps_for PassesOwn.never rfl (pi_tup (pv 0)) (pg_tup rfl (pgs_cons (pg_name (i := 2) sc__many_in_two_events.nd rfl (Or.inl rfl)) (pgs_cons (pg_name (i := 3) sc__many_in_two_events.nd rfl (Or.inl rfl)) pgs_nil))) (pss_one (ps_for PassesOwn.never rfl (pi_tup (pv 3)) (pg_tup rfl (pgs_cons (pg_name (i := 2) sc__many_in_two_events.nd rfl (Or.inl rfl)) (pgs_cons (pg_name (i := 2) sc__many_in_two_events.nd rfl (Or.inl rfl)) (pgs_cons (pg_name (i := 4) sc__many_in_two_events.nd rfl (Or.inl rfl)) pgs_nil)))) (pss_one (ps_set (i := 1) sc__many_in_two_events.nd rfl (Or.inl rfl) (pe_op op_add (pv 1) (pe_callB call_len_seq (by rfl) T.n_len (by decide +kernel) (pa_cons (pe_lc (own := [("row", 5)]) (g := (gName 5))  rfl sc__many_in_two_events.nd (pi_tup (pv 4)) (blkOk_by (N := N__many_in_two_events) (sc := defScope s__many_in_two_events) (by decide +kernel)) (fun _ _ _ _ _ => (pg_name (i := 5) sc__many_in_two_events.nd rfl (Or.inl rfl))) (fun _ _ _ _ _ => (pts_one (pt_cmpR (op_inS (neg := false) (Z := ⟨K, κ⟩) (hu70 hr) rfl) (pe_ix ix_tup (pv 5) pe_int (fun _ _ => rfl)) (pe_glob (v := .ref a_IN_TWO_EVENTS) rfl GT_IN_TWO_EVENTS.g rfl) rfl))) (fun _ _ _ _ _ => (pv 5))) pa_nil))))))))
      (pss_one (ps_ret (pv 1))))), ok_body (Z := ⟨K, κ⟩) (O := []) (js_seq (js_asg j_int (jg_name nin nofun))
      (js_seq (js_for (ji_tup xS (j_var nin)) (jg_tup (jg_cons (jg_name nin nofun) (jg_cons (jg_name nin nofun) jg_nil))) (js_for (ji_tup xS (j_var nin)) (jg_tup (jg_cons (jg_name nin nofun) (jg_cons (jg_name nin nofun) (jg_cons (jg_name nin nofun) jg_nil)))) (js_asg (j_op upD r_add (j_var nin) (j_cb c_len (ja_consW (JD.w (j_lc (ji_tup xCo (j_var nin)) (jg_name nin (fun w e => by cases e; decide)) (jb_test (j_op upD (r_inS (neg := false)) (j_op upD r_ixT (j_var nin) j_int) (JD.w (j_c GT_IN_TWO_EVENTS.isD)))) (j_var nin))) ja_nil))) (jg_name nin nofun))))
      (js_ret (JD.w (j_var nin))))) (fun _ m => absurd m List.not_mem_nil) h⟩)
theorem ok__are_programs {f : Addr} {fd : FuncData} (F : Fun K "_are_programs" "_are_programs" s__are_programs f fd) (T : TxD2 mg) (TN : TxN mg n_MOST_LETTERS n_LEAST_NARROW n_MOST_PACE n_MOST_IN_TWO_EVENTS) (cL_is_tuple_of : Cal P w K mg base 1 "is_tuple_of" P_is_tuple_of (spD ⟨K, κ⟩ 3 L_is_tuple_of)) (cL__is_program : Cal P w K mg base 5 "_is_program" P__is_program (spD ⟨K, κ⟩ 2 L__is_program)) (cL_is_ascending : Cal P w K mg base 1 "is_ascending" P_is_ascending (spD ⟨K, κ⟩ 1 L_is_ascending)) (cL__many_in_two_events : Cal P w K mg base 1 "_many_in_two_events" P__many_in_two_events (spD ⟨K, κ⟩ 1 L__many_in_two_events)) : FnOk P w K mg base CX0 6 f fd P__are_programs (spD ⟨K, κ⟩ 2 L__are_programs) := by
  obtain ⟨f_is_tuple_of, fd_is_tuple_of, G_is_tuple_of, b_is_tuple_of, g_is_tuple_of, k_is_tuple_of⟩ := cL_is_tuple_of
  obtain ⟨f__is_program, fd__is_program, G__is_program, b__is_program, g__is_program, k__is_program⟩ := cL__is_program
  obtain ⟨f_is_ascending, fd_is_ascending, G_is_ascending, b_is_ascending, g_is_ascending, k_is_ascending⟩ := cL_is_ascending
  obtain ⟨f__many_in_two_events, fd__many_in_two_events, G__many_in_two_events, b__many_in_two_events, g__many_in_two_events, k__many_in_two_events⟩ := cL__many_in_two_events
  exact F.ok sc__are_programs (fun vs H Q E h => h.1) (fun cdv A outer s H vs Q E hr h => ⟨_, (pss_cons (ps_if (pt_not (pt_val (pe_call G_is_tuple_of (hr.mono (by decide)) rfl g_is_tuple_of k_is_tuple_of b_is_tuple_of .nil pass0 (pa_cons (pv 1) (pa_cons pe_int (pa_cons pe_int pa_nil)))))) (pss_one (ps_ret pe_bl)) pss_nil)
      (pss_cons (ps_if (pt_not (pt_val (pe_callB (cr_all rfl) (by rfl) T.n_all (by decide +kernel) (pa_cons (pe_lc (own := [("program", 2)]) (g := (gName 2)) (tt := tYes) rfl sc__are_programs.nd (pi_tup (pv 1)) (blkOk_by (N := N__are_programs) (sc := defScope s__are_programs) (by decide +kernel)) (fun _ _ _ _ _ => (pg_name (i := 2) sc__are_programs.nd rfl (Or.inl rfl))) (fun _ _ _ _ _ => pts_nil) (fun _ _ _ _ _ => (pe_call G__is_program (hr.mono (by decide)) rfl g__is_program k__is_program b__is_program .nil pass0 (pa_cons (pv 0) (pa_cons (pv 2) pa_nil))))) pa_nil)))) (pss_one (ps_ret pe_bl)) pss_nil)
      (pss_cons (ps_if (pt_not (pt_val (pe_call G_is_ascending (hr.mono (by decide)) rfl g_is_ascending k_is_ascending b_is_ascending .nil pass0 (pa_cons (pe_lc (own := [("name", 3), ("_", 4)]) (g := (gTup _ 2 (gCons (gName 3) (gCons (gName 4) gNil)))) (tt := tYes) rfl sc__are_programs.nd (pi_tup (pv 1)) (blkOk_by (N := N__are_programs) (sc := defScope s__are_programs) (by decide +kernel)) (fun _ _ _ _ _ => (pg_tup rfl (pgs_cons (pg_name (i := 3) sc__are_programs.nd rfl (Or.inl rfl)) (pgs_cons (pg_name (i := 4) sc__are_programs.nd rfl (Or.inl rfl)) pgs_nil)))) (fun _ _ _ _ _ => pts_nil) (fun _ _ _ _ _ => (pv 3))) pa_nil)))) (pss_one (ps_ret pe_bl)) pss_nil)
      (pss_one (ps_ret (pe_cmpR op_le (pe_call G__many_in_two_events (hr.mono (by decide)) rfl g__many_in_two_events k__many_in_two_events b__many_in_two_events .nil pass0 (pa_cons (pv 1) pa_nil)) (pe_glob (v := .int 2) rfl TN.g_MOST_IN_TWO_EVENTS ⟨_, rfl⟩) (nomark _))))))), ok_body (Z := ⟨K, κ⟩) (O := []) (js_seq (js_if (jb_not (jb_B (j_callV via_id (ja_cons (j_var nin) (ja_cons j_int (ja_cons j_int ja_nil))) (len_cons (len_cons (len_cons (fun _ _ _ _ h => len_nil h))))))) (js_ret (JD.w j_bl)) js_next)
      (js_seq (js_if (jb_not (jb_B (j_cb c_all (ja_consW (JD.w (j_lc (ji_tup xCo (j_var nin)) (jg_name nin (fun w e => by cases e; decide)) jb_yes (j_callV via_id (ja_cons (j_var nin) (ja_cons (j_var nin) ja_nil)) (len_cons (len_cons (fun _ _ _ _ h => len_nil h)))))) ja_nil)))) (js_ret (JD.w j_bl)) js_next)
      (js_seq (js_if (jb_not (jb_B (j_callV via_id (ja_cons (j_lc (ji_tup xCo (j_var nin)) (jg_tup (jg_cons (jg_name nin (fun w e => by cases e; decide)) (jg_cons (jg_name nin (fun w e => by cases e; decide)) jg_nil))) jb_yes (j_var nin)) ja_nil) (len_cons (fun _ _ _ _ h => len_nil h))))) (js_ret (JD.w j_bl)) js_next)
      (js_ret (JD.w (j_op upD r_le (j_callV via_id (ja_cons (j_var nin) ja_nil) (len_cons (fun _ _ _ _ h => len_nil h))) j_int)))))) (fun _ m => absurd m List.not_mem_nil) h⟩)
theorem ok_World___init__ {f : Addr} {fd : FuncData} (F : Fun K "__init__" "World.__init__" s_World___init__ f fd) (T : TxD2 mg) (cL__are_kinds : Cal P w K mg base 3 "_are_kinds" P__are_kinds (spD ⟨K, κ⟩ 2 L__are_kinds)) (cL__are_columns : Cal P w K mg base 2 "_are_columns" P__are_columns (spD ⟨K, κ⟩ 1 L__are_columns)) (cL__are_programs : Cal P w K mg base 6 "_are_programs" P__are_programs (spD ⟨K, κ⟩ 2 L__are_programs)) (CT_World : ClsI K mg ⟨K, κ⟩ "World" "World" ["narrow", "wide", "columns", "programs"]) : FnOk P w K mg base CX0 7 f fd P_World___init__ (spD ⟨K, κ⟩ 5 L_World___init__) := by
  obtain ⟨f__are_kinds, fd__are_kinds, G__are_kinds, b__are_kinds, g__are_kinds, k__are_kinds⟩ := cL__are_kinds
  obtain ⟨f__are_columns, fd__are_columns, G__are_columns, b__are_columns, g__are_columns, k__are_columns⟩ := cL__are_columns
  obtain ⟨f__are_programs, fd__are_programs, G__are_programs, b__are_programs, g__are_programs, k__are_programs⟩ := cL__are_programs
  exact F.ok sc_World___init__ (fun vs H Q E h => h.1) (fun cdv A outer s H vs Q E hr h => ⟨_, (pss_cons (ps_set (i := 5) sc_World___init__.nd rfl (Or.inl rfl) (pe_and (pe_call G__are_kinds (hr.mono (by decide)) rfl g__are_kinds k__are_kinds b__are_kinds .nil pass0 (pa_cons (pv 1) (pa_cons (pv 2) pa_nil))) (pe_and (pe_call G__are_columns (hr.mono (by decide)) rfl g__are_columns k__are_columns b__are_columns .nil pass0 (pa_cons (pv 3) pa_nil)) (pe_one (pe_call G__are_programs (hr.mono (by decide)) rfl g__are_programs k__are_programs b__are_programs .nil pass0 (pa_cons (pv 3) (pa_cons (pv 4) pa_nil)))))))
      (pss_cons (ps_if (pt_not (pt_val (pv 5))) (pss_one ps_never) pss_nil)
      (pss_cons (ps_fld (pv 0) (pv 1) rfl)
      (pss_cons (ps_fld (pv 0) (pv 2) rfl)
      (pss_cons (ps_fld (pv 0) (pv 3) rfl)
      (pss_one (ps_fld (pv 0) (pv 4) rfl))))))), ok_body (Z := ⟨K, κ⟩) (O := []) (js_seq (js_asg (j_andV (j_callV via_id (ja_cons (j_var nin) (ja_cons (j_var nin) ja_nil)) (len_cons (len_cons (fun _ _ _ _ h => len_nil h)))) (j_andV (j_callV via_id (ja_cons (j_var nin) ja_nil) (len_cons (fun _ _ _ _ h => len_nil h))) (j_callV via_id (ja_cons (j_var nin) (ja_cons (j_var nin) ja_nil)) (len_cons (len_cons (fun _ _ _ _ h => len_nil h)))))) (jg_name nin nofun))
      (js_seq (js_if (jb_not (jb_B (j_var nin))) js_never js_next)
      (js_seq (js_setFL CT_World.t (.head _) (j_var nin) (j_var nin))
      (js_seq (js_setFL CT_World.t (.tail _ (.head _)) (j_var nin) (j_var nin))
      (js_seq (js_setFL CT_World.t (.tail _ (.tail _ (.head _))) (j_var nin) (j_var nin))
      (js_setFL CT_World.t (.tail _ (.tail _ (.tail _ (.head _)))) (j_var nin) (j_var nin))))))) (fun _ m => absurd m List.not_mem_nil) h⟩)
theorem ok__law_take {f : Addr} {fd : FuncData} (F : Fun K "_law_take" "_law_take" s__law_take f fd) (T : TxD2 mg) : FnOk P w K mg base CX0 1 f fd P__law_take (spD ⟨K, κ⟩ 2 L__law_take) := by
  exact F.ok sc__law_take (fun vs H Q E h => h.1) (fun cdv A outer s H vs Q E hr h => ⟨_, (pss_cons (ps_if (pt_cmpR op_gt (pe_ix ix_list (pv 0) pe_int (fun _ _ => rfl)) pe_int (nomark _)) (pss_cons (ps_set (i := 2) sc__law_take.nd rfl (Or.inl rfl) (pe_op op_mod (pe_callTy call_int1 (by rfl) T.n_int (by decide +kernel) (pa_cons (pe_ix ix_list (pv 0) pe_int (fun _ _ => rfl)) pa_nil)) (pv 1)))
      (pss_cons (ps_asg (pe_op op_fdivW (pe_ix ix_list (pv 0) pe_int (fun _ _ => rfl)) (pv 1)) (pg_sub (pv 0) pe_int set_list))
      (pss_one (ps_ret (pv 2))))) pss_nil)
      (pss_cons (ps_asg (pe_op op_add (pe_ix ix_list (pv 0) pe_int (fun _ _ => rfl)) pe_int) (pg_sub (pv 0) pe_int set_list))
      (pss_cons (ps_set (i := 3) sc__law_take.nd rfl (Or.inl rfl) (pe_ix ix_list (pe_lst (pa_cons pe_int (pa_cons pe_int (pa_cons pe_int (pa_cons pe_int (pa_cons pe_int pa_nil)))))) (pe_op op_mod (pe_callTy call_int1 (by rfl) T.n_int (by decide +kernel) (pa_cons (pe_ix ix_list (pv 0) pe_int (fun _ _ => rfl)) pa_nil)) pe_int) (fun _ _ => rfl)))
      (pss_cons (ps_set (i := 4) sc__law_take.nd rfl (Or.inl rfl) (pe_op op_mod (pe_callTy call_int1 (by rfl) T.n_int (by decide +kernel) (pa_cons (pe_op op_pow (pe_callTy call_int1 (by rfl) T.n_int (by decide +kernel) (pa_cons (pe_op op_add (pe_op op_add (pe_ix ix_list (pv 0) pe_int (fun _ _ => rfl)) (pe_op op_mul (pe_op op_mul pe_int (pe_ix ix_list (pv 0) pe_int (fun _ _ => rfl))) (pe_ix ix_list (pv 0) pe_int (fun _ _ => rfl)))) pe_int) pa_nil)) pe_int) pa_nil)) (pv 3)))
      (pss_cons (ps_set (i := 4) sc__law_take.nd rfl (Or.inl rfl) (pe_op op_mod (pe_callTy call_int1 (by rfl) T.n_int (by decide +kernel) (pa_cons (pe_op op_mul (pv 4) (pe_op op_add (pe_op op_mod (pe_callTy call_int1 (by rfl) T.n_int (by decide +kernel) (pa_cons (pv 4) pa_nil)) pe_int) (pe_op op_mul pe_int (pe_ix ix_list (pv 0) pe_int (fun _ _ => rfl))))) pa_nil)) pe_int))
      (pss_one (ps_ret (pe_op op_mod (pe_callTy call_int1 (by rfl) T.n_int (by decide +kernel) (pa_cons (pe_op op_fdivW (pv 4) pe_int) pa_nil)) (pv 1))))))))), ok_body (Z := ⟨K, κ⟩) (O := []) (js_seq (js_if (jb_test (j_op upD r_gt (j_op upD r_ixLo (j_var nin) j_int) j_int)) (js_seq (js_asg (j_op upD r_mod (j_cb c_int (ja_cons (j_op upD r_ixLo (j_var nin) j_int) ja_nil)) (j_var nin)) (jg_name nin nofun))
      (js_seq (js_setLo nin j_int (j_op upD r_div (j_op upD r_ixLo (j_var nin) j_int) (j_var nin)))
      (js_ret (JD.w (j_var nin))))) js_next)
      (js_seq (js_setLo nin j_int (j_op upD r_add (j_op upD r_ixLo (j_var nin) j_int) j_int))
      (js_seq (js_asg (j_op upW r_ixL (JD.w (j_lst (ja_cons j_int (ja_cons j_int (ja_cons j_int (ja_cons j_int (ja_cons j_int ja_nil))))))) (j_op upD r_mod (j_cb c_int (ja_cons (j_op upD r_ixLo (j_var nin) j_int) ja_nil)) j_int)) (jg_name nin nofun))
      (js_seq (js_asg (j_op upD r_mod (j_cb c_int (ja_cons (j_op upD r_pow (j_cb c_int (ja_cons (j_op upD r_add (j_op upD r_add (j_op upD r_ixLo (j_var nin) j_int) (j_op upD r_mul (j_op upD r_mul j_int (j_op upD r_ixLo (j_var nin) j_int)) (j_op upD r_ixLo (j_var nin) j_int))) j_int) ja_nil)) j_int) ja_nil)) (j_var nin)) (jg_name nin nofun))
      (js_seq (js_asg (j_op upD r_mod (j_cb c_int (ja_cons (j_op upD r_mul (j_var nin) (j_op upD r_add (j_op upD r_mod (j_cb c_int (ja_cons (j_var nin) ja_nil)) j_int) (j_op upD r_mul j_int (j_op upD r_ixLo (j_var nin) j_int)))) ja_nil)) j_int) (jg_name nin nofun))
      (js_ret (JD.w (j_op upD r_mod (j_cb c_int (ja_cons (j_op upD r_div (j_var nin) j_int) ja_nil)) (j_var nin))))))))) (fun _ m => absurd m List.not_mem_nil) h⟩)
theorem ok__law_of {f : Addr} {fd : FuncData} (F : Fun K "_law_of" "_law_of" s__law_of f fd) (T : TxD2 mg) (cL__law_take : Cal P w K mg base 1 "_law_take" P__law_take (spD ⟨K, κ⟩ 2 L__law_take)) : FnOk P w K mg base CX0 2 f fd P__law_of (spD ⟨K, κ⟩ 2 L__law_of) := by
  obtain ⟨f__law_take, fd__law_take, G__law_take, b__law_take, g__law_take, k__law_take⟩ := cL__law_take
  exact F.ok sc__law_of (fun vs H Q E h => h.1) (fun cdv A outer s H vs Q E hr h => ⟨_, (pss_one (ps_ret (pe_ix ix_list (pv 1) (pe_call G__law_take (hr.mono (by decide)) rfl g__law_take k__law_take b__law_take .nil pass0 (pa_cons (pv 0) (pa_cons (pe_callB call_len_seq (by rfl) T.n_len (by decide +kernel) (pa_cons (pv 1) pa_nil)) pa_nil))) (fun _ _ => rfl)))), ok_body (Z := ⟨K, κ⟩) (O := []) (js_ret (JD.w (j_op upW r_ixL (JD.w (j_var nin)) (j_callV via_id (ja_cons (j_var nin) (ja_cons (j_cb c_len (ja_consW (JD.w (j_var nin)) ja_nil)) ja_nil)) (len_cons (len_cons (fun _ _ _ _ h => len_nil h))))))) (fun _ m => absurd m List.not_mem_nil) h⟩)
theorem ok_World___eq__ {f : Addr} {fd : FuncData} (F : Fun K "__eq__" "World.__eq__" s_World___eq__ f fd) (T : TxD2 mg) (CT_World : ClsI K mg ⟨K, κ⟩ "World" "World" ["narrow", "wide", "columns", "programs"]) (EA_World : EqA ⟨K, κ⟩ "World" ["Kind"]) (cL_Kind___eq__ : MeI P w K mg base ⟨K, κ⟩ 1 "Kind" "__eq__" P_Kind___eq__ (spD ⟨K, κ⟩ 2 L_Kind___eq__)) : FnOk P w K mg base CX0 2 f fd P_World___eq__ (spD ⟨K, κ⟩ 2 L_World___eq__) := by
  obtain ⟨f_Kind___eq__, fd_Kind___eq__, M_Kind___eq__, G_Kind___eq__, b_Kind___eq__⟩ := cL_Kind___eq__
  exact F.ok sc_World___eq__ (fun vs H Q E h => h.1) (fun cdv A outer s H vs Q E hr h => ⟨_, (pss_one (ps_ret (pe_and (pe_callB call_isi (by rfl) T.n_isinstance (by decide +kernel) (pa_cons (pv 1) (pa_cons (pe_glob (v := .ref (κ "World")) rfl CT_World.g rfl) pa_nil))) (pe_and (pe_cmpR (op_cmpI (fun _ _ => rfl) M_Kind___eq__.at_ M_Kind___eq__.fn G_Kind___eq__ (hr.mono (by decide)) b_Kind___eq__ pass0) (pe_fld (pv 0) rfl) (pe_fld (pv 1) rfl) (nomark _)) (pe_and (pe_cmpR (op_cmpI (fun _ _ => rfl) M_Kind___eq__.at_ M_Kind___eq__.fn G_Kind___eq__ (hr.mono (by decide)) b_Kind___eq__ pass0) (pe_fld (pv 0) rfl) (pe_fld (pv 1) rfl) (nomark _)) (pe_and (pe_cmpR (op_eqD hr.units) (pe_fld (pv 0) rfl) (pe_fld (pv 1) rfl) (nomark _)) (pe_one (pe_cmpR (op_eqD hr.units) (pe_fld (pv 0) rfl) (pe_fld (pv 1) rfl) (nomark _))))))))), ok_body (Z := ⟨K, κ⟩) (O := []) (js_ret (JD.w (j_andV (j_cb (c_isiC EA_World) (ja_cons (j_var nin) (ja_cons j_cls ja_nil))) (j_andV (j_op upD (r_own2 via_id) (j_fldI CT_World.t (.head _) (j_var nin)) (j_fldI CT_World.t (.head _) (j_var nin))) (j_andV (j_op upD (r_own2 via_id) (j_fldI CT_World.t (.tail _ (.head _)) (j_var nin)) (j_fldI CT_World.t (.tail _ (.head _)) (j_var nin))) (j_andV (j_op upW r_eqD (JD.w (j_fldI CT_World.t (.tail _ (.tail _ (.head _))) (j_var nin))) (JD.w (j_fldI CT_World.t (.tail _ (.tail _ (.head _))) (j_var nin)))) (j_op upW r_eqD (JD.w (j_fldI CT_World.t (.tail _ (.tail _ (.tail _ (.head _)))) (j_var nin))) (JD.w (j_fldI CT_World.t (.tail _ (.tail _ (.tail _ (.head _)))) (j_var nin)))))))))) (fun _ m => absurd m List.not_mem_nil) h⟩)
theorem ok_Kind___str__ {f : Addr} {fd : FuncData} (F : Fun K "__str__" "Kind.__str__" s_Kind___str__ f fd) (T : TxD2 mg) (CT_Kind : ClsI K mg ⟨K, κ⟩ "Kind" "Kind" ["low", "high", "size"]) : FnOk P w K mg base CX0 1 f fd P_Kind___str__ (spD ⟨K, κ⟩ 1 L_Kind___str__) := by
  exact F.ok sc_Kind___str__ (fun vs H Q E h => h.1) (fun cdv A outer s H vs Q E hr h => ⟨_, (pss_one (ps_ret (pe_joined (.cons (pe_fmt (pe_fld (pv 0) rfl)) (.cons pe_str (.cons (pe_fmt (pe_fld (pv 0) rfl)) .nil)))))), ok_body (Z := ⟨K, κ⟩) (O := []) (js_ret (JD.w (j_joined (.cons (j_fmt (j_fldI CT_Kind.t (.head _) (j_var nin))) (.cons j_str (.cons (j_fmt (j_fldI CT_Kind.t (.tail _ (.head _)) (j_var nin))) .nil)))))) (fun _ m => absurd m List.not_mem_nil) h⟩)
theorem ok__law_pot {f : Addr} {fd : FuncData} (F : Fun K "_law_pot" "_law_pot" s__law_pot f fd) (T : TxD2 mg) : FnOk P w K mg base CX0 1 f fd P__law_pot (spD ⟨K, κ⟩ 2 L__law_pot) := by
  exact F.ok sc__law_pot (fun vs H Q E h => h.1) (fun cdv A outer s H vs Q E hr h => ⟨_, (pss_cons (ps_set (i := 2) sc__law_pot.nd rfl (Or.inl rfl) (pe_ifExp (pt_cmpR op_lt (pv 1) (pe_callB call_len_seq (by rfl) T.n_len (by decide +kernel) (pa_cons (pv 0) pa_nil)) (nomark _)) (pe_ix ix_list (pv 0) (pv 1) (fun _ _ => rfl)) (pe_op op_add (pe_op op_mul pe_int (pv 1)) pe_int)))
      (pss_cons (ps_set (i := 3) sc__law_pot.nd rfl (Or.inl rfl) (pe_op op_mul (pe_op op_mod (pe_callTy call_int1 (by rfl) T.n_int (by decide +kernel) (pa_cons (pe_callB call_abs (by rfl) T.n_abs (by decide +kernel) (pa_cons (pv 2) pa_nil)) pa_nil)) (pe_op op_powZ (pe_op op_pow pe_int pe_int) pe_int)) (pe_callTy call_int1 (by rfl) T.n_int (by decide +kernel) (pa_cons (pe_cmpR op_ge (pe_callB call_abs (by rfl) T.n_abs (by decide +kernel) (pa_cons (pv 2) pa_nil)) (pe_op op_pow pe_int pe_int) (nomark _)) pa_nil))))
      (pss_one (ps_ret (pe_lst (pa_cons (pv 3) (pa_cons (pe_op op_mod (pe_callTy call_int1 (by rfl) T.n_int (by decide +kernel) (pa_cons (pe_op op_add (pe_op op_add (pe_op op_mul (pe_op op_mod (pe_callTy call_int1 (by rfl) T.n_int (by decide +kernel) (pa_cons (pv 2) pa_nil)) pe_int) pe_int) (pe_op op_mul (pe_op op_mul pe_int (pv 1)) (pv 1))) pe_int) pa_nil)) pe_int) (pa_cons pe_int pa_nil)))))))), ok_body (Z := ⟨K, κ⟩) (O := []) (js_seq (js_asg (j_if (jb_test (j_op upD r_lt (j_var nin) (j_cb c_len (ja_consW (JD.w (j_var nin)) ja_nil)))) (j_op upD r_ixSc (j_var nin) (j_var nin)) (j_op upD r_add (j_op upD r_mul j_int (j_var nin)) j_int)) (jg_name nin nofun))
      (js_seq (js_asg (j_op upD r_mul (j_op upD r_mod (j_cb c_int (ja_cons (j_cb c_abs (ja_cons (j_var nin) ja_nil)) ja_nil)) (j_op upD r_powZ (j_op upD r_pow j_int j_int) j_int)) (j_cb c_int (ja_cons (j_op upD r_ge (j_cb c_abs (ja_cons (j_var nin) ja_nil)) (j_op upD r_pow j_int j_int)) ja_nil))) (jg_name nin nofun))
      (js_retLo (jf_lst (ja_cons (j_var nin) (ja_cons (j_op upD r_mod (j_cb c_int (ja_cons (j_op upD r_add (j_op upD r_add (j_op upD r_mul (j_op upD r_mod (j_cb c_int (ja_cons (j_var nin) ja_nil)) j_int) j_int) (j_op upD r_mul (j_op upD r_mul j_int (j_var nin)) (j_var nin))) j_int) ja_nil)) j_int) (ja_cons j_int ja_nil))))))) (fun _ m => absurd m List.not_mem_nil) h⟩)
theorem ok__law_ofS {f : Addr} {fd : FuncData} (F : Fun K "_law_of" "_law_of" s__law_of f fd) (T : TxD2 mg) (cL__law_take : Cal P w K mg base 1 "_law_take" P__law_take (spD ⟨K, κ⟩ 2 L__law_take)) : FnOk P w K mg base CX0 2 f fd P__law_of (spD ⟨K, κ⟩ 2 L__law_ofS) := by
  obtain ⟨f__law_take, fd__law_take, G__law_take, b__law_take, g__law_take, k__law_take⟩ := cL__law_take
  exact F.ok sc__law_of (fun vs H Q E h => h.1) (fun cdv A outer s H vs Q E hr h => ⟨_, (pss_one (ps_ret (pe_ix ix_str (pv 1) (pe_call G__law_take (hr.mono (by decide)) rfl g__law_take k__law_take b__law_take .nil pass0 (pa_cons (pv 0) (pa_cons (pe_callB call_len_str (by rfl) T.n_len (by decide +kernel) (pa_cons (pv 1) pa_nil)) pa_nil))) (fun _ _ => rfl)))), ok_body (Z := ⟨K, κ⟩) (O := []) (js_ret (JD.w (j_op upD r_ixS (j_var nin) (j_callV via_id (ja_cons (j_var nin) (ja_cons (j_cb c_lenS (ja_cons (j_var nin) ja_nil)) ja_nil)) (len_cons (len_cons (fun _ _ _ _ h => len_nil h))))))) (fun _ m => absurd m List.not_mem_nil) h⟩)
theorem ok__law_names {f : Addr} {fd : FuncData} (F : Fun K "_law_names" "_law_names" s__law_names f fd) (T : TxD2 mg) (n_sorted : mg "sorted" = none) (cL__law_of : Cal P w K mg base 2 "_law_of" P__law_of (spD ⟨K, κ⟩ 2 L__law_of)) (cL__law_ofS : Cal P w K mg base 2 "_law_of" P__law_of (spD ⟨K, κ⟩ 2 L__law_ofS)) (cL__law_take : Cal P w K mg base 1 "_law_take" P__law_take (spD ⟨K, κ⟩ 2 L__law_take)) : FnOk P w K mg base CX0 3 f fd P__law_names (spD ⟨K, κ⟩ 2 L__law_names) := by
  obtain ⟨f__law_of, fd__law_of, G__law_of, b__law_of, g__law_of, k__law_of⟩ := cL__law_of
  obtain ⟨f__law_ofS, fd__law_ofS, G__law_ofS, b__law_ofS, g__law_ofS, k__law_ofS⟩ := cL__law_ofS
  obtain ⟨f__law_take, fd__law_take, G__law_take, b__law_take, g__law_take, k__law_take⟩ := cL__law_take
  exact F.ok sc__law_names (fun vs H Q E h => h.1) (fun cdv A outer s H vs Q E hr h => ⟨_, (pss_cons (ps_set (i := 2) sc__law_names.nd rfl (Or.inr rfl) pe_str)
      (pss_cons (ps_set (i := 3) sc__law_names.nd rfl (Or.inr rfl) (pe_join pe_str (pe_lc (own := [("_law_turn", 6)]) (g := (gName 6)) (tt := tYes) rfl sc__law_names.nd (pi_range1 rfl T.n_range (pa_cons (pe_call G__law_of (hr.mono (by decide)) rfl g__law_of k__law_of b__law_of .nil pass0 (pa_cons (pv 0) (pa_cons (pe_lst (pa_cons pe_int (pa_cons pe_int (pa_cons pe_int (pa_cons pe_int (pa_cons pe_int pa_nil)))))) pa_nil))) pa_nil)) (blkOk_by (N := N__law_names) (sc := defScope s__law_names) (by decide +kernel)) (fun _ _ _ _ _ => (pg_name (i := 6) sc__law_names.nd rfl (Or.inl rfl))) (fun _ _ _ _ _ => pts_nil) (fun _ _ _ _ _ => (pe_call G__law_ofS (hr.mono (by decide)) rfl g__law_ofS k__law_ofS b__law_ofS .nil pass0 (pa_cons (pv 0) (pa_cons (pv 2) pa_nil)))))))
      (pss_cons (ps_asg (pe_tup (pa_cons (pe_call G__law_take (hr.mono (by decide)) rfl g__law_take k__law_take b__law_take .nil pass0 (pa_cons (pv 0) (pa_cons (pe_op op_add (pe_callB call_len_str (by rfl) T.n_len (by decide +kernel) (pa_cons (pv 3) pa_nil)) pe_int) pa_nil))) (pa_cons (pe_call G__law_take (hr.mono (by decide)) rfl g__law_take k__law_take b__law_take .nil pass0 (pa_cons (pv 0) (pa_cons pe_int pa_nil))) pa_nil))) (pg_tup rfl (pgs_cons (pg_name (i := 4) sc__law_names.nd rfl (Or.inr rfl)) (pgs_cons (pg_name (i := 5) sc__law_names.nd rfl (Or.inr rfl)) pgs_nil))))
      (pss_one (ps_ret (pe_callB cr_sortedS (by rfl) n_sorted (by decide +kernel) (pa_cons (pe_lc (own := [("_law_k", 7)]) (g := (gName 7)) (tt := tYes) rfl sc__law_names.nd (pi_range1 rfl T.n_range (pa_cons (pv 1) pa_nil)) (blkOk_by (N := N__law_names) (sc := defScope s__law_names) (by decide +kernel)) (fun _ _ _ _ _ => (pg_name (i := 7) sc__law_names.nd rfl (Or.inl rfl))) (fun _ _ _ _ _ => pts_nil) (fun _ _ _ _ _ => (pe_callTy SkE.call_str_str (by rfl) T.n_str (by decide +kernel) (pa_cons (pe_op op_add_str (pe_op op_add_str (pe_slice sl_str (pv 3) po_none (po_some (pv 4))) (pe_ix ix_str (pv 2) (pe_op op_mod (pe_callTy call_int1 (by rfl) T.n_int (by decide +kernel) (pa_cons (pe_op op_add (pv 5) (pe_op op_mul pe_int (pv 7))) pa_nil)) pe_int) (fun _ _ => rfl))) (pe_slice sl_str (pv 3) (po_some (pv 4)) po_none)) pa_nil)))) pa_nil))))))), ok_body (Z := ⟨K, κ⟩) (O := []) (js_seq (js_asg j_str (jg_name nin nofun))
      (js_seq (js_asg (j_join j_str (j_lc (ji_rg1 (ja_cons (j_callV via_id (ja_cons (j_var nin) (ja_cons (j_lst (ja_cons j_int (ja_cons j_int (ja_cons j_int (ja_cons j_int (ja_cons j_int ja_nil)))))) ja_nil)) (len_cons (len_cons (fun _ _ _ _ h => len_nil h)))) ja_nil)) (jg_name nin (fun w e => by cases e; decide)) jb_yes (j_callV via_id (ja_cons (j_var nin) (ja_cons (j_var nin) ja_nil)) (len_cons (len_cons (fun _ _ _ _ h => len_nil h)))))) (jg_name nin nofun))
      (js_seq (js_asg (j_tup (ja_cons (j_callV via_id (ja_cons (j_var nin) (ja_cons (j_op upD r_add (j_cb c_lenS (ja_cons (j_var nin) ja_nil)) j_int) ja_nil)) (len_cons (len_cons (fun _ _ _ _ h => len_nil h)))) (ja_cons (j_callV via_id (ja_cons (j_var nin) (ja_cons j_int ja_nil)) (len_cons (len_cons (fun _ _ _ _ h => len_nil h)))) ja_nil))) (jg_tup (jg_cons (jg_name nin nofun) (jg_cons (jg_name nin nofun) jg_nil))))
      (js_ret (JD.w (j_cb c_sorted (ja_cons (j_lc (ji_rg1 (ja_cons (j_var nin) ja_nil)) (jg_name nin (fun w e => by cases e; decide)) jb_yes (j_cb c_strS (ja_cons (j_op upD r_addS (j_op upD r_addS (j_slX (j_var nin) jo_none (jo_some (j_var nin))) (j_op upD r_ixS (j_var nin) (j_op upD r_mod (j_cb c_int (ja_cons (j_op upD r_add (j_var nin) (j_op upD r_mul j_int (j_var nin))) ja_nil)) j_int))) (j_slX (j_var nin) (jo_some (j_var nin)) jo_none)) ja_nil))) ja_nil))))))) (fun _ m => absurd m List.not_mem_nil) h⟩)
theorem ok__law_kinds {f : Addr} {fd : FuncData} (F : Fun K "_law_kinds" "_law_kinds" s__law_kinds f fd) (T : TxD2 mg) (cL__law_of : Cal P w K mg base 2 "_law_of" P__law_of (spD ⟨K, κ⟩ 2 L__law_of)) (cL__law_take : Cal P w K mg base 1 "_law_take" P__law_take (spD ⟨K, κ⟩ 2 L__law_take)) : FnOk P w K mg base CX0 3 f fd P__law_kinds (spD ⟨K, κ⟩ 1 L__law_kinds) := by
  obtain ⟨f__law_of, fd__law_of, G__law_of, b__law_of, g__law_of, k__law_of⟩ := cL__law_of
  obtain ⟨f__law_take, fd__law_take, G__law_take, b__law_take, g__law_take, k__law_take⟩ := cL__law_take
  exact F.ok sc__law_kinds (fun vs H Q E h => h.1) (fun cdv A outer s H vs Q E hr h => ⟨_, (pss_cons (ps_set (i := 1) sc__law_kinds.nd rfl (Or.inl rfl) (pe_un un_neg (pe_call G__law_of (hr.mono (by decide)) rfl g__law_of k__law_of b__law_of .nil pass0 (pa_cons (pv 0) (pa_cons (pe_lst (pa_cons pe_int (pa_cons pe_int (pa_cons pe_int (pa_cons pe_int (pa_cons pe_int (pa_cons pe_int pa_nil))))))) pa_nil)))))
      (pss_cons (ps_set (i := 2) sc__law_kinds.nd rfl (Or.inl rfl) (pe_call G__law_of (hr.mono (by decide)) rfl g__law_of k__law_of b__law_of .nil pass0 (pa_cons (pv 0) (pa_cons (pe_lst (pa_cons pe_int (pa_cons pe_int (pa_cons (pe_op op_add pe_int (pe_call G__law_take (hr.mono (by decide)) rfl g__law_take k__law_take b__law_take .nil pass0 (pa_cons (pv 0) (pa_cons pe_int pa_nil)))) (pa_cons pe_int (pa_cons (pe_op op_mul (pe_op op_pow pe_int pe_int) (pe_op op_add pe_int (pe_call G__law_take (hr.mono (by decide)) rfl g__law_take k__law_take b__law_take .nil pass0 (pa_cons (pv 0) (pa_cons (pe_op op_pow pe_int pe_int) pa_nil))))) pa_nil)))))) pa_nil))))
      (pss_cons (ps_set (i := 3) sc__law_kinds.nd rfl (Or.inl rfl) (pe_callB (call_max2 rfl) (by rfl) T.n_max (by decide +kernel) (pa_cons pe_int (pa_cons (pe_op op_sub (pe_op op_add (pv 1) (pv 2)) pe_int) pa_nil))))
      (pss_cons (ps_set (i := 4) sc__law_kinds.nd rfl (Or.inl rfl) (pe_call G__law_of (hr.mono (by decide)) rfl g__law_of k__law_of b__law_of .nil pass0 (pa_cons (pv 0) (pa_cons (pe_lst (pa_cons pe_int (pa_cons pe_int (pa_cons (pe_op op_add (pe_op op_sub (pv 3) (pv 1)) pe_int) (pa_cons (pe_op op_add pe_int (pe_call G__law_take (hr.mono (by decide)) rfl g__law_take k__law_take b__law_take .nil pass0 (pa_cons (pv 0) (pa_cons pe_int pa_nil)))) (pa_cons (pe_op op_mul (pe_op op_add (pe_op op_sub (pv 3) (pv 1)) pe_int) pe_int) (pa_cons (pe_op op_pow pe_int pe_int) pa_nil))))))) pa_nil))))
      (pss_one (ps_ret (pe_tup (pa_cons (pe_tup (pa_cons (pv 1) (pa_cons (pv 3) pa_nil))) (pa_cons (pe_tup (pa_cons (pe_op op_sub (pv 1) (pe_call G__law_of (hr.mono (by decide)) rfl g__law_of k__law_of b__law_of .nil pass0 (pa_cons (pv 0) (pa_cons (pe_lst (pa_cons pe_int (pa_cons pe_int (pa_cons pe_int (pa_cons pe_int pa_nil))))) pa_nil)))) (pa_cons (pe_op op_add (pv 3) (pe_callB (call_max2 rfl) (by rfl) T.n_max (by decide +kernel) (pa_cons pe_int (pa_cons (pv 4) pa_nil)))) pa_nil))) pa_nil))))))))), ok_body (Z := ⟨K, κ⟩) (O := []) (js_seq (js_asg (j_un u_neg (j_callV via_id (ja_cons (j_var nin) (ja_cons (j_lst (ja_cons j_int (ja_cons j_int (ja_cons j_int (ja_cons j_int (ja_cons j_int (ja_cons j_int ja_nil))))))) ja_nil)) (len_cons (len_cons (fun _ _ _ _ h => len_nil h))))) (jg_name nin nofun))
      (js_seq (js_asg (j_callV via_id (ja_cons (j_var nin) (ja_cons (j_lst (ja_cons j_int (ja_cons j_int (ja_cons (j_op upD r_add j_int (j_callV via_id (ja_cons (j_var nin) (ja_cons j_int ja_nil)) (len_cons (len_cons (fun _ _ _ _ h => len_nil h))))) (ja_cons j_int (ja_cons (j_op upD r_mul (j_op upD r_pow j_int j_int) (j_op upD r_add j_int (j_callV via_id (ja_cons (j_var nin) (ja_cons (j_op upD r_pow j_int j_int) ja_nil)) (len_cons (len_cons (fun _ _ _ _ h => len_nil h)))))) ja_nil)))))) ja_nil)) (len_cons (len_cons (fun _ _ _ _ h => len_nil h)))) (jg_name nin nofun))
      (js_seq (js_asg (j_cb c_max (ja_cons j_int (ja_cons (j_op upD r_sub (j_op upD r_add (j_var nin) (j_var nin)) j_int) ja_nil))) (jg_name nin nofun))
      (js_seq (js_asg (j_callV via_id (ja_cons (j_var nin) (ja_cons (j_lst (ja_cons j_int (ja_cons j_int (ja_cons (j_op upD r_add (j_op upD r_sub (j_var nin) (j_var nin)) j_int) (ja_cons (j_op upD r_add j_int (j_callV via_id (ja_cons (j_var nin) (ja_cons j_int ja_nil)) (len_cons (len_cons (fun _ _ _ _ h => len_nil h))))) (ja_cons (j_op upD r_mul (j_op upD r_add (j_op upD r_sub (j_var nin) (j_var nin)) j_int) j_int) (ja_cons (j_op upD r_pow j_int j_int) ja_nil))))))) ja_nil)) (len_cons (len_cons (fun _ _ _ _ h => len_nil h)))) (jg_name nin nofun))
      (js_ret (JD.w (j_tup (ja_cons (j_tup (ja_cons (j_var nin) (ja_cons (j_var nin) ja_nil))) (ja_cons (j_tup (ja_cons (j_op upD r_sub (j_var nin) (j_callV via_id (ja_cons (j_var nin) (ja_cons (j_lst (ja_cons j_int (ja_cons j_int (ja_cons j_int (ja_cons j_int ja_nil))))) ja_nil)) (len_cons (len_cons (fun _ _ _ _ h => len_nil h))))) (ja_cons (j_op upD r_add (j_var nin) (j_cb c_max (ja_cons j_int (ja_cons (j_var nin) ja_nil)))) ja_nil))) ja_nil))))))))) (fun _ m => absurd m List.not_mem_nil) h⟩)
theorem ok__law_reads {f : Addr} {fd : FuncData} (F : Fun K "_law_reads" "_law_reads" s__law_reads f fd) (T : TxD2 mg) (cL__law_take : Cal P w K mg base 1 "_law_take" P__law_take (spD ⟨K, κ⟩ 2 L__law_take)) (cL__law_of : Cal P w K mg base 2 "_law_of" P__law_of (spD ⟨K, κ⟩ 2 L__law_of)) : FnOk P w K mg base CX0 3 f fd P__law_reads (spD ⟨K, κ⟩ 3 L__law_reads) := by
  obtain ⟨f__law_take, fd__law_take, G__law_take, b__law_take, g__law_take, k__law_take⟩ := cL__law_take
  obtain ⟨f__law_of, fd__law_of, G__law_of, b__law_of, g__law_of, k__law_of⟩ := cL__law_of
  exact F.ok sc__law_reads (fun vs H Q E h => h.1) (fun cdv A outer s H vs Q E hr h => ⟨_, (pss_cons (ps_set (i := 3) sc__law_reads.nd rfl (Or.inl rfl) (pe_lst pa_nil))
      (pss_cons (ps_for PassesOwn.never rfl (pi_tup (pv 1)) (pg_name (i := 4) sc__law_reads.nd rfl (Or.inl rfl)) (pss_cons (ps_asg (pe_tup (pa_cons (pe_call G__law_of (hr.mono (by decide)) rfl g__law_of k__law_of b__law_of .nil pass0 (pa_cons (pv 0) (pa_cons (pv 2) pa_nil))) (pa_cons (pe_call G__law_take (hr.mono (by decide)) rfl g__law_take k__law_take b__law_take .nil pass0 (pa_cons (pv 0) (pa_cons pe_int pa_nil))) pa_nil))) (pg_tup rfl (pgs_cons (pg_name (i := 5) sc__law_reads.nd rfl (Or.inl rfl)) (pgs_cons (pg_name (i := 6) sc__law_reads.nd rfl (Or.inr rfl)) pgs_nil))))
      (pss_cons (ps_setLc (i := 7) (own := [("_law_at", 8), ("_law_deed", 9)]) (g := (gTup _ 2 (gCons (gName 8) (gCons (gName 9) gNil))))  rfl sc__law_reads.nd rfl rfl (sw_true rfl rfl rfl (by decide +kernel)) (pi_enumG rfl T.n_enumerate (pa_cons (pe_lst (pa_cons pe_str (pa_cons pe_str (pa_cons pe_str pa_nil)))) pa_nil)) (blkOk_by (N := N__law_reads) (sc := defScope s__law_reads) (by decide +kernel)) (fun _ _ _ _ _ => (pg_tup rfl (pgs_cons (pg_name (i := 8) sc__law_reads.nd rfl (Or.inl rfl)) (pgs_cons (pg_name (i := 9) sc__law_reads.nd rfl (Or.inl rfl)) pgs_nil)))) (fun _ _ _ _ _ => (pts_one (pt_cmpR op_eq (pe_op op_mod (pe_callTy call_int1 (by rfl) T.n_int (by decide +kernel) (pa_cons (pe_op op_fdivW (pv 6) (pe_ix ix_list (pe_lst (pa_cons pe_int (pa_cons pe_int (pa_cons pe_int pa_nil)))) (pv 8) (fun _ _ => rfl))) pa_nil)) pe_int) pe_int (nomark _)))) (fun _ _ _ _ _ => (pv 9)))
      (pss_one (ps_if (pt_cmpR op_gt (pe_call G__law_take (hr.mono (by decide)) rfl g__law_take k__law_take b__law_take .nil pass0 (pa_cons (pv 0) (pa_cons pe_int pa_nil))) pe_int (nomark _)) (pss_one (ps_expr (pe_bm PySem.F.plainAttrs_list PySem.F.slot_list_append PySem.F.type_list_append mt_append (pv 3) (pa_cons (pe_tup (pa_cons (pv 4) (pa_cons (pv 5) (pa_cons (pe_callTy call_tuple_of (by rfl) T.n_tuple (by decide +kernel) (pa_cons (pv 7) pa_nil)) pa_nil)))) pa_nil)))) pss_nil)))))
      (pss_one (ps_ret (pe_callTy call_tuple_of (by rfl) T.n_tuple (by decide +kernel) (pa_cons (pv 3) pa_nil)))))), ok_body (Z := ⟨K, κ⟩) (O := []) (js_seq (js_asg (j_newLo (jf_lst ja_nil)) (jg_name nin nofun))
      (js_seq (js_for (ji_tup xS (j_var nin)) (jg_name nin nofun) (js_seq (js_asg (j_tup (ja_cons (j_callV via_id (ja_cons (j_var nin) (ja_cons (j_var nin) ja_nil)) (len_cons (len_cons (fun _ _ _ _ h => len_nil h)))) (ja_cons (j_callV via_id (ja_cons (j_var nin) (ja_cons j_int ja_nil)) (len_cons (len_cons (fun _ _ _ _ h => len_nil h)))) ja_nil))) (jg_tup (jg_cons (jg_name nin nofun) (jg_cons (jg_name nin nofun) jg_nil))))
      (js_seq (js_asg (j_lc (ji_enumG xCo (ja_cons (j_lst (ja_cons j_str (ja_cons j_str (ja_cons j_str ja_nil)))) ja_nil)) (jg_tup (jg_cons (jg_name nin (fun w e => by cases e; decide)) (jg_cons (jg_name nin (fun w e => by cases e; decide)) jg_nil))) (jb_test (j_op upD r_eq (j_op upD r_mod (j_cb c_int (ja_cons (j_op upD r_div (j_var nin) (j_op upW r_ixL (JD.w (j_lst (ja_cons j_int (ja_cons j_int (ja_cons j_int ja_nil))))) (j_var nin))) ja_nil)) j_int) j_int)) (j_var nin)) (jg_name nin nofun))
      (js_if (jb_test (j_op upD r_gt (j_callV via_id (ja_cons (j_var nin) (ja_cons j_int ja_nil)) (len_cons (len_cons (fun _ _ _ _ h => len_nil h)))) j_int)) (js_appLo (j_var nin) (ja_cons (j_tup (ja_cons (j_var nin) (ja_cons (j_var nin) (ja_cons (j_cb c_tuple (ja_consW (JD.w (j_var nin)) ja_nil)) ja_nil)))) ja_nil)) js_next))))
      (js_ret (JD.w (j_cb c_tupleLo (ja_cons (j_var nin) ja_nil)))))) (fun _ m => absurd m List.not_mem_nil) h⟩)
theorem ok__law_writes {f : Addr} {fd : FuncData} (F : Fun K "_law_writes" "_law_writes" s__law_writes f fd) (T : TxD2 mg) (cL__law_of : Cal P w K mg base 2 "_law_of" P__law_of (spD ⟨K, κ⟩ 2 L__law_of)) (cL__law_take : Cal P w K mg base 1 "_law_take" P__law_take (spD ⟨K, κ⟩ 2 L__law_take)) : FnOk P w K mg base CX0 3 f fd P__law_writes (spD ⟨K, κ⟩ 5 L__law_writes) := by
  obtain ⟨f__law_of, fd__law_of, G__law_of, b__law_of, g__law_of, k__law_of⟩ := cL__law_of
  obtain ⟨f__law_take, fd__law_take, G__law_take, b__law_take, g__law_take, k__law_take⟩ := cL__law_take
  exact F.ok sc__law_writes (fun vs H Q E h => h.1) (fun cdv A outer s H vs Q E hr h => ⟨_, (pss_cons (ps_set (i := 5) sc__law_writes.nd rfl (Or.inl rfl) (pe_lst pa_nil))
      (pss_cons (ps_for PassesOwn.never rfl (pi_tup (pv 1)) (pg_name (i := 6) sc__law_writes.nd rfl (Or.inr rfl)) (pss_cons (ps_par (i := 7) (j := 8) rfl sc__law_writes.nd rfl rfl (by decide) rfl rfl (pa_cons (pe_call G__law_of (hr.mono (by decide)) rfl g__law_of k__law_of b__law_of .nil pass0 (pa_cons (pv 0) (pa_cons (pv 3) pa_nil))) (pa_cons (pe_call G__law_of (hr.mono (by decide)) rfl g__law_of k__law_of b__law_of .nil pass0 (pa_cons (pv 0) (pa_cons (pe_lst (pa_cons pe_str (pa_cons pe_str (pa_cons pe_str pa_nil)))) pa_nil))) pa_nil)) (by rfl))
      (pss_cons (ps_setLc (i := 9) (own := [("_law_row", 11)]) (g := (gName 11))  rfl sc__law_writes.nd rfl rfl (sw_true rfl rfl rfl (by decide +kernel)) (pi_tup (pv 2)) (blkOk_by (N := N__law_writes) (sc := defScope s__law_writes) (by decide +kernel)) (fun _ _ _ _ _ => (pg_name (i := 11) sc__law_writes.nd rfl (Or.inl rfl))) (fun _ _ _ _ _ => (pts_one (pt_cmpR op_ne (pe_ix ix_tup (pv 11) pe_int (fun _ _ => rfl)) (pv 6) (nomark _)))) (fun _ _ _ _ _ => (pe_ix ix_tup (pv 11) pe_int (fun _ _ => rfl))))
      (pss_cons (ps_set (i := 10) sc__law_writes.nd rfl (Or.inl rfl) (pe_ifExp (PW.pt (pw_and (pt_cmpR (op_neD hr.units) (pv 9) (pe_lst pa_nil) (nomark _)) (pw_and1 (pt_cmpR op_eq (pe_call G__law_take (hr.mono (by decide)) rfl g__law_take k__law_take b__law_take .nil pass0 (pa_cons (pv 0) (pa_cons pe_int pa_nil))) pe_int (nomark _))))) (pe_call G__law_of (hr.mono (by decide)) rfl g__law_of k__law_of b__law_of .nil pass0 (pa_cons (pv 0) (pa_cons (pv 9) pa_nil))) pe_str))
      (pss_one (ps_if (pt_cmpR op_gt (pe_call G__law_take (hr.mono (by decide)) rfl g__law_take k__law_take b__law_take .nil pass0 (pa_cons (pv 0) (pa_cons pe_int pa_nil))) pe_int (nomark _)) (pss_cons (ps_if (pt_cmpR (op_inS (neg := false) (Z := ⟨K, κ⟩) (hu70 hr) rfl) (pv 7) (pe_tup (pa_cons pe_str (pa_cons pe_str pa_nil))) rfl) (pss_cons (ps_dput (lt_units hr.units) (pv 4) pe_str (pe_op op_add (pe_dget (lt_units hr.units) (pv 4) pe_str (fun _ _ => rfl)) pe_int) rfl)
      (pss_one (ps_set (i := 7) sc__law_writes.nd rfl (Or.inl rfl) (pe_ifExp (pt_cmpR op_lt (pe_dget (lt_units hr.units) (pv 4) pe_str (fun _ _ => rfl)) pe_int (nomark _)) (pv 7) pe_str)))) pss_nil)
      (pss_one (ps_expr (pe_bm PySem.F.plainAttrs_list PySem.F.slot_list_append PySem.F.type_list_append mt_append (pv 5) (pa_cons (pe_tup (pa_cons (pv 6) (pa_cons (pv 7) (pa_cons (pv 8) (pa_cons (pv 10) (pa_cons (pe_call G__law_take (hr.mono (by decide)) rfl g__law_take k__law_take b__law_take .nil pass0 (pa_cons (pv 0) (pa_cons pe_int pa_nil))) pa_nil)))))) pa_nil))))) pss_nil))))))
      (pss_one (ps_ret (pe_callTy call_tuple_of (by rfl) T.n_tuple (by decide +kernel) (pa_cons (pv 5) pa_nil)))))), ok_body (Z := ⟨K, κ⟩) (O := []) (js_seq (js_asg (j_newLo (jf_lst ja_nil)) (jg_name nin nofun))
      (js_seq (js_for (ji_tup xS (j_var nin)) (jg_name nin nofun) (js_seq (js_par nin nin (ja_cons (j_callV via_id (ja_cons (j_var nin) (ja_cons (j_var nin) ja_nil)) (len_cons (len_cons (fun _ _ _ _ h => len_nil h)))) (ja_cons (j_callV via_id (ja_cons (j_var nin) (ja_cons (j_lst (ja_cons j_str (ja_cons j_str (ja_cons j_str ja_nil)))) ja_nil)) (len_cons (len_cons (fun _ _ _ _ h => len_nil h)))) ja_nil)))
      (js_seq (js_asg (j_lc (ji_tup xCo (j_var nin)) (jg_name nin (fun w e => by cases e; decide)) (jb_test (j_op upD r_ne (j_op upD r_ixT (j_var nin) j_int) (j_var nin))) (j_op upD r_ixT (j_var nin) j_int)) (jg_name nin nofun))
      (js_seq (js_asg (j_if (jb_and (jb_test (j_op upW r_neD (JD.w (j_var nin)) (JD.w (j_lst ja_nil)))) (jb_test (j_op upD r_eq (j_callV via_id (ja_cons (j_var nin) (ja_cons j_int ja_nil)) (len_cons (len_cons (fun _ _ _ _ h => len_nil h)))) j_int))) (j_callV via_id (ja_cons (j_var nin) (ja_cons (j_var nin) ja_nil)) (len_cons (len_cons (fun _ _ _ _ h => len_nil h)))) j_str) (jg_name nin nofun))
      (js_if (jb_test (j_op upD r_gt (j_callV via_id (ja_cons (j_var nin) (ja_cons j_int ja_nil)) (len_cons (len_cons (fun _ _ _ _ h => len_nil h)))) j_int)) (js_seq (js_if (jb_test (j_op upD (r_inS (neg := false)) (j_var nin) (JD.w (j_tup (ja_cons j_str (ja_cons j_str ja_nil)))))) (js_seq (js_dputLo (j_var nin) j_str (j_op upD r_add (j_dgetLo (j_var nin) j_str) j_int))
      (js_asg (j_if (jb_test (j_op upD r_lt (j_dgetLo (j_var nin) j_str) j_int)) (j_var nin) j_str) (jg_name nin nofun))) js_next)
      (js_appLo (j_var nin) (ja_cons (j_tup (ja_cons (j_var nin) (ja_cons (j_var nin) (ja_cons (j_var nin) (ja_cons (j_var nin) (ja_cons (j_callV via_id (ja_cons (j_var nin) (ja_cons j_int ja_nil)) (len_cons (len_cons (fun _ _ _ _ h => len_nil h)))) ja_nil)))))) ja_nil))) js_next)))))
      (js_ret (JD.w (j_cb c_tupleLo (ja_cons (j_var nin) ja_nil)))))) (fun _ m => absurd m List.not_mem_nil) h⟩)
theorem ok__law_edition {f : Addr} {fd : FuncData} (F : Fun K "_law_edition" "_law_edition" s__law_edition f fd) (T : TxD2 mg) (cL__law_take : Cal P w K mg base 1 "_law_take" P__law_take (spD ⟨K, κ⟩ 2 L__law_take)) (cL__law_reads : Cal P w K mg base 3 "_law_reads" P__law_reads (spD ⟨K, κ⟩ 3 L__law_reads)) (cL__law_writes : Cal P w K mg base 3 "_law_writes" P__law_writes (spD ⟨K, κ⟩ 5 L__law_writes)) : FnOk P w K mg base CX0 4 f fd P__law_edition (spD ⟨K, κ⟩ 3 L__law_edition) := by
  obtain ⟨f__law_take, fd__law_take, G__law_take, b__law_take, g__law_take, k__law_take⟩ := cL__law_take
  obtain ⟨f__law_reads, fd__law_reads, G__law_reads, b__law_reads, g__law_reads, k__law_reads⟩ := cL__law_reads
  obtain ⟨f__law_writes, fd__law_writes, G__law_writes, b__law_writes, g__law_writes, k__law_writes⟩ := cL__law_writes
  exact F.ok sc__law_edition (fun vs H Q E h => h.1) (fun cdv A outer s H vs Q E hr h => ⟨_, (pss_cons (ps_set (i := 3) sc__law_edition.nd rfl (Or.inl rfl) (pe_ifExp (pt_cmpR op_gt (pv 2) pe_int (nomark _)) (pe_lst (pa_cons pe_str (pa_cons pe_str (pa_cons pe_str (pa_cons pe_str (pa_cons pe_str (pa_cons pe_str (pa_cons pe_str pa_nil)))))))) (pe_lst (pa_cons pe_str pa_nil))))
      (pss_cons (ps_set (i := 4) sc__law_edition.nd rfl (Or.inl rfl) (pe_ifExp (pt_cmpR op_gt (pv 2) pe_int (nomark _)) (pe_lst (pa_cons pe_str (pa_cons pe_str (pa_cons pe_str pa_nil)))) (pe_lst (pa_cons pe_str (pa_cons pe_str (pa_cons pe_str pa_nil))))))
      (pss_cons (ps_set (i := 5) sc__law_edition.nd rfl (Or.inl rfl) (pe_ifExp (pt_cmpR op_eq (pe_call G__law_take (hr.mono (by decide)) rfl g__law_take k__law_take b__law_take .nil pass0 (pa_cons (pv 0) (pa_cons pe_int pa_nil))) pe_int (nomark _)) pe_str pe_str))
      (pss_cons (ps_set (i := 6) sc__law_edition.nd rfl (Or.inl rfl) (pe_call G__law_reads (hr.mono (by decide)) rfl g__law_reads k__law_reads b__law_reads .nil pass0 (pa_cons (pv 0) (pa_cons (pe_dget (lt_units hr.units) (pv 1) pe_str (fun _ _ => rfl)) (pa_cons (pv 4) pa_nil)))))
      (pss_one (ps_ret (pe_tup (pa_cons (pv 5) (pa_cons (pv 6) (pa_cons (pe_call G__law_writes (hr.mono (by decide)) rfl g__law_writes k__law_writes b__law_writes .nil pass0 (pa_cons (pv 0) (pa_cons (pe_dget (lt_units hr.units) (pv 1) pe_str (fun _ _ => rfl)) (pa_cons (pv 6) (pa_cons (pv 3) (pa_cons (pv 1) pa_nil)))))) pa_nil)))))))))), ok_body (Z := ⟨K, κ⟩) (O := []) (js_seq (js_asg (j_if (jb_test (j_op upD r_gt (j_var nin) j_int)) (j_lst (ja_cons j_str (ja_cons j_str (ja_cons j_str (ja_cons j_str (ja_cons j_str (ja_cons j_str (ja_cons j_str ja_nil)))))))) (j_lst (ja_cons j_str ja_nil))) (jg_name nin nofun))
      (js_seq (js_asg (j_if (jb_test (j_op upD r_gt (j_var nin) j_int)) (j_lst (ja_cons j_str (ja_cons j_str (ja_cons j_str ja_nil)))) (j_lst (ja_cons j_str (ja_cons j_str (ja_cons j_str ja_nil))))) (jg_name nin nofun))
      (js_seq (js_asg (j_if (jb_test (j_op upD r_eq (j_callV via_id (ja_cons (j_var nin) (ja_cons j_int ja_nil)) (len_cons (len_cons (fun _ _ _ _ h => len_nil h)))) j_int)) j_str j_str) (jg_name nin nofun))
      (js_seq (js_asg (j_callV via_id (ja_cons (j_var nin) (ja_cons (j_dgetLo (j_var nin) j_str) (ja_cons (j_var nin) ja_nil))) (len_cons (len_cons (len_cons (fun _ _ _ _ h => len_nil h))))) (jg_name nin nofun))
      (js_ret (JD.w (j_tup (ja_cons (j_var nin) (ja_cons (j_var nin) (ja_cons (j_callV via_id (ja_cons (j_var nin) (ja_cons (j_dgetLo (j_var nin) j_str) (ja_cons (j_var nin) (ja_cons (j_var nin) (ja_cons (j_var nin) ja_nil))))) (len_cons (len_cons (len_cons (len_cons (len_cons (fun _ _ _ _ h => len_nil h))))))) ja_nil)))))))))) (fun _ m => absurd m List.not_mem_nil) h⟩)
theorem ok__law_world {f : Addr} {fd : FuncData} (F : Fun K "_law_world" "_law_world" s__law_world f fd) (T : TxD2 mg) (cL__law_kinds : Cal P w K mg base 3 "_law_kinds" P__law_kinds (spD ⟨K, κ⟩ 1 L__law_kinds)) (cL__law_names : Cal P w K mg base 3 "_law_names" P__law_names (spD ⟨K, κ⟩ 2 L__law_names)) (cL__law_take : Cal P w K mg base 1 "_law_take" P__law_take (spD ⟨K, κ⟩ 2 L__law_take)) (cL__law_edition : Cal P w K mg base 4 "_law_edition" P__law_edition (spD ⟨K, κ⟩ 3 L__law_edition)) (cL_World___init__ : MkI P w K mg base ⟨K, κ⟩ 7 "World" "World" P_World___init__ (spD ⟨K, κ⟩ 5 L_World___init__)) (cL_Kind___init__ : MkI P w K mg base ⟨K, κ⟩ 2 "Kind" "Kind" P_Kind___init__ (spD ⟨K, κ⟩ 3 L_Kind___init__)) : FnOk P w K mg base CX0 9 f fd P__law_world (spD ⟨K, κ⟩ 2 L__law_world) := by
  obtain ⟨f__law_kinds, fd__law_kinds, G__law_kinds, b__law_kinds, g__law_kinds, k__law_kinds⟩ := cL__law_kinds
  obtain ⟨f__law_names, fd__law_names, G__law_names, b__law_names, g__law_names, k__law_names⟩ := cL__law_names
  obtain ⟨f__law_take, fd__law_take, G__law_take, b__law_take, g__law_take, k__law_take⟩ := cL__law_take
  obtain ⟨f__law_edition, fd__law_edition, G__law_edition, b__law_edition, g__law_edition, k__law_edition⟩ := cL__law_edition
  obtain ⟨f_World, fd_World, MK_World, G_World, b_World, g_World⟩ := cL_World___init__
  obtain ⟨f_Kind, fd_Kind, MK_Kind, G_Kind, b_Kind, g_Kind⟩ := cL_Kind___init__
  exact F.ok sc__law_world (fun vs H Q E h => h.1) (fun cdv A outer s H vs Q E hr h => ⟨_, (pss_cons (ps_asg (pe_call G__law_kinds (hr.mono (by decide)) rfl g__law_kinds k__law_kinds b__law_kinds .nil pass0 (pa_cons (pv 0) pa_nil)) (pg_tup rfl (pgs_cons (pg_name (i := 2) sc__law_world.nd rfl (Or.inl rfl)) (pgs_cons (pg_name (i := 3) sc__law_world.nd rfl (Or.inl rfl)) pgs_nil))))
      (pss_cons (ps_set (i := 4) sc__law_world.nd rfl (Or.inr rfl) (pe_disp (pps_cons pe_str pe_int (pps_cons pe_str (pv 2) (pps_cons pe_str (pv 3) (pps_cons pe_str (pe_callTy call_tuple_of (by rfl) T.n_tuple (by decide +kernel) (pa_cons (pe_call G__law_names (hr.mono (by decide)) rfl g__law_names k__law_names b__law_names .nil pass0 (pa_cons (pv 0) (pa_cons (pe_op op_add pe_int (pe_call G__law_take (hr.mono (by decide)) rfl g__law_take k__law_take b__law_take .nil pass0 (pa_cons (pv 0) (pa_cons (pe_ix ix_list (pv 1) pe_int (fun _ _ => rfl)) pa_nil)))) pa_nil))) pa_nil)) pps_nil)))) rfl rfl (by simp) (by decide)))
      (pss_cons (ps_set (i := 5) sc__law_world.nd rfl (Or.inl rfl) (pe_lst pa_nil))
      (pss_cons (ps_for PassesOwn.never rfl (pi_list (pe_call G__law_names (hr.mono (by decide)) rfl g__law_names k__law_names b__law_names .nil pass0 (pa_cons (pv 0) (pa_cons (pe_op op_add pe_int (pe_call G__law_take (hr.mono (by decide)) rfl g__law_take k__law_take b__law_take .nil pass0 (pa_cons (pv 0) (pa_cons (pe_ix ix_list (pv 1) pe_int (fun _ _ => rfl)) pa_nil)))) pa_nil)))) (pg_name (i := 6) sc__law_world.nd rfl (Or.inl rfl)) (pss_cons (ps_set (i := 7) sc__law_world.nd rfl (Or.inl rfl) (pe_op op_add pe_int (pe_call G__law_take (hr.mono (by decide)) rfl g__law_take k__law_take b__law_take .nil pass0 (pa_cons (pv 0) (pa_cons (pe_ix ix_list (pv 1) pe_int (fun _ _ => rfl)) pa_nil)))))
      (pss_one (ps_expr (pe_bm PySem.F.plainAttrs_list PySem.F.slot_list_append PySem.F.type_list_append mt_append (pv 5) (pa_cons (pe_tup (pa_cons (pv 6) (pa_cons (pe_callTy call_tuple_of (by rfl) T.n_tuple (by decide +kernel) (pa_cons (pe_lc (own := [("_law_number", 8)]) (g := (gName 8)) (tt := tYes) rfl sc__law_world.nd (pi_range1 rfl T.n_range (pa_cons (pv 7) pa_nil)) (blkOk_by (N := N__law_world) (sc := defScope s__law_world) (by decide +kernel)) (fun _ _ _ _ _ => (pg_name (i := 8) sc__law_world.nd rfl (Or.inl rfl))) (fun _ _ _ _ _ => pts_nil) (fun _ _ _ _ _ => (pe_call G__law_edition (hr.mono (by decide)) rfl g__law_edition k__law_edition b__law_edition .nil pass0 (pa_cons (pv 0) (pa_cons (pv 4) (pa_cons (pv 8) pa_nil)))))) pa_nil)) pa_nil))) pa_nil))))))
      (pss_cons (ps_dput (lt_units hr.units) (pv 4) pe_str (pe_callTy call_tuple_of (by rfl) T.n_tuple (by decide +kernel) (pa_cons (pv 5) pa_nil)) rfl)
      (pss_cons (ps_dput (lt_units hr.units) (pv 4) pe_str (pe_make MK_World G_World (hr.mono (by decide)) rfl g_World b_World .nil pass0 (pa_cons (pe_make MK_Kind G_Kind (hr.mono (by decide)) rfl g_Kind b_Kind .nil pass0 (pa_cons (pe_ix ix_tup (pv 2) pe_int (fun _ _ => rfl)) (pa_cons (pe_ix ix_tup (pv 2) pe_int (fun _ _ => rfl)) pa_nil))) (pa_cons (pe_make MK_Kind G_Kind (hr.mono (by decide)) rfl g_Kind b_Kind .nil pass0 (pa_cons (pe_ix ix_tup (pv 3) pe_int (fun _ _ => rfl)) (pa_cons (pe_ix ix_tup (pv 3) pe_int (fun _ _ => rfl)) pa_nil))) (pa_cons (pe_dget (lt_units hr.units) (pv 4) pe_str (fun _ _ => rfl)) (pa_cons (pe_dget (lt_units hr.units) (pv 4) pe_str (fun _ _ => rfl)) pa_nil))))) rfl)
      (pss_one (ps_ret (pv 4))))))))), ok_body (Z := ⟨K, κ⟩) (O := []) (js_seq (js_asg (j_callV via_id (ja_cons (j_var nin) ja_nil) (len_cons (fun _ _ _ _ h => len_nil h))) (jg_tup (jg_cons (jg_name nin nofun) (jg_cons (jg_name nin nofun) jg_nil))))
      (js_seq (js_asg (j_newLo (jf_disp (.cons j_str j_int (.cons j_str (j_var nin) (.cons j_str (j_var nin) (.cons j_str (j_cb c_tuple (ja_consW (JD.w (j_callV via_id (ja_cons (j_var nin) (ja_cons (j_op upD r_add j_int (j_callV via_id (ja_cons (j_var nin) (ja_cons (j_op upW r_ixL (JD.w (j_var nin)) j_int) ja_nil)) (len_cons (len_cons (fun _ _ _ _ h => len_nil h))))) ja_nil)) (len_cons (len_cons (fun _ _ _ _ h => len_nil h))))) ja_nil)) .nil)))))) (jg_name nin nofun))
      (js_seq (js_asg (j_newLo (jf_lst ja_nil)) (jg_name nin nofun))
      (js_seq (js_for (ji_list xS (j_callV via_id (ja_cons (j_var nin) (ja_cons (j_op upD r_add j_int (j_callV via_id (ja_cons (j_var nin) (ja_cons (j_op upW r_ixL (JD.w (j_var nin)) j_int) ja_nil)) (len_cons (len_cons (fun _ _ _ _ h => len_nil h))))) ja_nil)) (len_cons (len_cons (fun _ _ _ _ h => len_nil h))))) (jg_name nin nofun) (js_seq (js_asg (j_op upD r_add j_int (j_callV via_id (ja_cons (j_var nin) (ja_cons (j_op upW r_ixL (JD.w (j_var nin)) j_int) ja_nil)) (len_cons (len_cons (fun _ _ _ _ h => len_nil h))))) (jg_name nin nofun))
      (js_appLo (j_var nin) (ja_cons (j_tup (ja_cons (j_var nin) (ja_cons (j_cb c_tuple (ja_consW (JD.w (j_lc (ji_rg1 (ja_cons (j_var nin) ja_nil)) (jg_name nin (fun w e => by cases e; decide)) jb_yes (j_callV via_id (ja_cons (j_var nin) (ja_cons (j_var nin) (ja_cons (j_var nin) ja_nil))) (len_cons (len_cons (len_cons (fun _ _ _ _ h => len_nil h))))))) ja_nil)) ja_nil))) ja_nil))))
      (js_seq (js_dputLo (j_var nin) j_str (j_cb c_tupleLo (ja_cons (j_var nin) ja_nil)))
      (js_seq (js_dputLo (j_var nin) j_str (j_makeV mk_F (ja_cons (j_makeV mk_F (ja_cons (j_op upD r_ixT (j_var nin) j_int) (ja_cons (j_op upD r_ixT (j_var nin) j_int) ja_nil)) (len_cons (len_cons (fun _ _ _ _ h => len_nil h)))) (ja_cons (j_makeV mk_F (ja_cons (j_op upD r_ixT (j_var nin) j_int) (ja_cons (j_op upD r_ixT (j_var nin) j_int) ja_nil)) (len_cons (len_cons (fun _ _ _ _ h => len_nil h)))) (ja_cons (j_dgetLo (j_var nin) j_str) (ja_cons (j_dgetLo (j_var nin) j_str) ja_nil)))) (len_cons (len_cons (len_cons (len_cons (fun _ _ _ _ h => len_nil h)))))))
      (js_ret (JD.w (j_var nin))))))))) (fun _ m => absurd m List.not_mem_nil) h⟩)
theorem ok__law_ends {f : Addr} {fd : FuncData} (F : Fun K "_law_ends" "_law_ends" s__law_ends f fd) (T : TxD2 mg) (CT_Kind : ClsI K mg ⟨K, κ⟩ "Kind" "Kind" ["low", "high", "size"]) : FnOk P w K mg base CX0 1 f fd P__law_ends (spD ⟨K, κ⟩ 1 L__law_ends) := by
  exact F.ok sc__law_ends (fun vs H Q E h => h.1) (fun cdv A outer s H vs Q E hr h => ⟨_, (pss_one (ps_ret (pe_tup (pa_cons (pe_fld (pv 0) rfl) (pa_cons (pe_fld (pv 0) rfl) pa_nil))))), ok_body (Z := ⟨K, κ⟩) (O := []) (js_ret (JD.w (j_tup (ja_cons (j_fldI CT_Kind.t (.head _) (j_var nin)) (ja_cons (j_fldI CT_Kind.t (.tail _ (.head _)) (j_var nin)) ja_nil))))) (fun _ m => absurd m List.not_mem_nil) h⟩)
theorem ok__law_others {f : Addr} {fd : FuncData} (F : Fun K "_law_others" "_law_others" s__law_others f fd) (T : TxD2 mg) (n_sorted : mg "sorted" = none) : FnOk P w K mg base CX0 1 f fd P__law_others (spD ⟨K, κ⟩ 1 L__law_others) := by
  exact F.ok sc__law_others (fun vs H Q E h => h.1) (fun cdv A outer s H vs Q E hr h => ⟨_, (pss_cons (ps_par (i := 1) (j := 2) rfl sc__law_others.nd rfl rfl (by decide) rfl rfl (pa_cons (pe_dget (lt_units hr.units) (pv 0) pe_str (fun _ _ => rfl)) (pa_cons (pe_dget (lt_units hr.units) (pv 0) pe_str (fun _ _ => rfl)) pa_nil)) (by rfl))
      (pss_cons (ps_asg (pe_tup (pa_cons (pe_dget (lt_units hr.units) (pv 0) pe_str (fun _ _ => rfl)) (pa_cons (pe_dget (lt_units hr.units) (pv 0) pe_str (fun _ _ => rfl)) pa_nil))) (pg_tup rfl (pgs_cons (pg_name (i := 3) sc__law_others.nd rfl (Or.inr rfl)) (pgs_cons (pg_name (i := 4) sc__law_others.nd rfl (Or.inl rfl)) pgs_nil))))
      (pss_cons (ps_set (i := 5) sc__law_others.nd rfl (Or.inl rfl) (pe_lst (pa_cons (pe_tup (pa_cons (pv 1) (pa_cons (pe_tup (pa_cons (pe_ix ix_tup (pv 2) pe_int (fun _ _ => rfl)) (pa_cons (pe_op op_add (pe_ix ix_tup (pv 2) pe_int (fun _ _ => rfl)) pe_int) pa_nil))) (pa_cons (pv 3) (pa_cons (pv 4) pa_nil))))) pa_nil)))
      (pss_cons (ps_expr (pe_bm PySem.F.plainAttrs_list PySem.F.slot_list_append PySem.F.type_list_append mt_append (pv 5) (pa_cons (pe_tup (pa_cons (pv 1) (pa_cons (pe_tup (pa_cons (pe_op op_sub (pe_ix ix_tup (pv 2) pe_int (fun _ _ => rfl)) pe_int) (pa_cons (pe_ix ix_tup (pv 2) pe_int (fun _ _ => rfl)) pa_nil))) (pa_cons (pv 3) (pa_cons (pv 4) pa_nil))))) pa_nil)))
      (pss_cons (ps_if (PW.pt (pw_and (pt_cmpR op_gt (pe_op op_sub (pe_ix ix_tup (pv 1) pe_int (fun _ _ => rfl)) (pe_ix ix_tup (pv 1) pe_int (fun _ _ => rfl))) pe_int (nomark _)) (pw_and1 (pt_cmpR op_gt (pe_ix ix_tup (pv 1) pe_int (fun _ _ => rfl)) pe_int (nomark _))))) (pss_one (ps_expr (pe_bm PySem.F.plainAttrs_list PySem.F.slot_list_append PySem.F.type_list_append mt_append (pv 5) (pa_cons (pe_tup (pa_cons (pe_tup (pa_cons (pe_ix ix_tup (pv 1) pe_int (fun _ _ => rfl)) (pa_cons (pe_op op_sub (pe_ix ix_tup (pv 1) pe_int (fun _ _ => rfl)) pe_int) pa_nil))) (pa_cons (pv 2) (pa_cons (pv 3) (pa_cons (pv 4) pa_nil))))) pa_nil)))) pss_nil)
      (pss_cons (ps_set (i := 6) sc__law_others.nd rfl (Or.inl rfl) (pe_tup (pa_cons (pe_ix ix_tup (pe_ix ix_tup (pv 4) (pe_un un_neg pe_int) (fun _ _ => rfl)) pe_int (fun _ _ => rfl)) (pa_cons (pe_op op_repB (pe_ix ix_tup (pe_ix ix_tup (pv 4) (pe_un un_neg pe_int) (fun _ _ => rfl)) pe_int (fun _ _ => rfl)) pe_int) pa_nil))))
      (pss_cons (ps_expr (pe_bm PySem.F.plainAttrs_list PySem.F.slot_list_append PySem.F.type_list_append mt_append (pv 5) (pa_cons (pe_tup (pa_cons (pv 1) (pa_cons (pv 2) (pa_cons (pv 3) (pa_cons (pe_op op_catA (pe_slice sl_tupA (pv 4) po_none (po_some (pe_un un_neg pe_int))) (pe_tup (pa_cons (pv 6) pa_nil))) pa_nil))))) pa_nil)))
      (pss_cons (ps_asg (pe_tup (pa_cons (pe_ix ix_tup (pv 4) pe_int (fun _ _ => rfl)) (pa_cons (pe_lc (own := [("_law_sign", 17)]) (g := (gName 17)) (tt := tYes) rfl sc__law_others.nd (pi_str pe_str) (blkOk_by (N := N__law_others) (sc := defScope s__law_others) (by decide +kernel)) (fun _ _ _ _ _ => (pg_name (i := 17) sc__law_others.nd rfl (Or.inl rfl))) (fun _ _ _ _ _ => pts_nil) (fun _ _ _ _ _ => (pe_op op_repS (pv 17) pe_int))) pa_nil))) (pg_tup rfl (pgs_cons (pg_tup rfl (pgs_cons (pg_name (i := 7) sc__law_others.nd rfl (Or.inl rfl)) (pgs_cons (pg_name (i := 8) sc__law_others.nd rfl (Or.inl rfl)) pgs_nil))) (pgs_cons (pg_name (i := 9) sc__law_others.nd rfl (Or.inl rfl)) pgs_nil))))
      (pss_cons (ps_asg (pe_ix ix_tup (pv 8) pe_int (fun _ _ => rfl)) (pg_tup rfl (pgs_cons (pg_name (i := 10) sc__law_others.nd rfl (Or.inl rfl)) (pgs_cons (pg_name (i := 11) sc__law_others.nd rfl (Or.inl rfl)) (pgs_cons (pg_name (i := 12) sc__law_others.nd rfl (Or.inl rfl)) pgs_nil)))))
      (pss_cons (ps_set (i := 13) sc__law_others.nd rfl (Or.inl rfl) (pe_tup (pa_cons (pe_ifExp (pt_cmpR op_eq (pv 10) pe_str (nomark _)) pe_str pe_str) (pa_cons (pv 11) (pa_cons (pv 12) pa_nil)))))
      (pss_cons (ps_set (i := 14) sc__law_others.nd rfl (Or.inl rfl) (pe_tup (pa_cons (pv 7) (pa_cons (pe_op op_catA (pe_tup (pa_cons (pv 13) pa_nil)) (pe_slice sl_tupA (pv 8) (po_some pe_int) po_none)) pa_nil))))
      (pss_cons (ps_expr (pe_bm PySem.F.plainAttrs_list PySem.F.slot_list_append PySem.F.type_list_append mt_append (pv 5) (pa_cons (pe_tup (pa_cons (pv 1) (pa_cons (pv 2) (pa_cons (pv 3) (pa_cons (pe_op op_catA (pe_tup (pa_cons (pv 14) pa_nil)) (pe_slice sl_tupA (pv 4) (po_some pe_int) po_none)) pa_nil))))) pa_nil)))
      (pss_cons (ps_if (pt_cmpR op_lt (pe_callB call_len_seq (by rfl) T.n_len (by decide +kernel) (pa_cons (pv 3) pa_nil)) pe_int (nomark _)) (pss_cons (ps_set (i := 15) sc__law_others.nd rfl (Or.inl rfl) (pe_slice sl_list (pe_lc (own := [("_law_sign", 17)]) (g := (gName 17))  rfl sc__law_others.nd (pi_list (pv 9)) (blkOk_by (N := N__law_others) (sc := defScope s__law_others) (by decide +kernel)) (fun _ _ _ _ _ => (pg_name (i := 17) sc__law_others.nd rfl (Or.inl rfl))) (fun _ _ _ _ _ => (pts_one (pt_cmpR (op_inS (neg := true) (Z := ⟨K, κ⟩) (hu70 hr) rfl) (pv 17) (pv 3) rfl))) (fun _ _ _ _ _ => (pv 17))) po_none (po_some pe_int)))
      (pss_cons (ps_set (i := 16) sc__law_others.nd rfl (Or.inl rfl) (pe_callB cr_sortedS (by rfl) n_sorted (by decide +kernel) (pa_cons (pe_lc (own := [("_law_sign", 17)]) (g := (gName 17)) (tt := tYes) rfl sc__law_others.nd (pi_list (pe_op op_cat (pe_callTy call_list_of (by rfl) T.n_list (by decide +kernel) (pa_cons (pv 3) pa_nil)) (pv 15))) (blkOk_by (N := N__law_others) (sc := defScope s__law_others) (by decide +kernel)) (fun _ _ _ _ _ => (pg_name (i := 17) sc__law_others.nd rfl (Or.inl rfl))) (fun _ _ _ _ _ => pts_nil) (fun _ _ _ _ _ => (pe_callTy SkE.call_str_str (by rfl) T.n_str (by decide +kernel) (pa_cons (pv 17) pa_nil)))) pa_nil)))
      (pss_one (ps_expr (pe_bm PySem.F.plainAttrs_list PySem.F.slot_list_append PySem.F.type_list_append mt_append (pv 5) (pa_cons (pe_tup (pa_cons (pv 1) (pa_cons (pv 2) (pa_cons (pe_callTy call_tuple_of (by rfl) T.n_tuple (by decide +kernel) (pa_cons (pv 16) pa_nil)) (pa_cons (pv 4) pa_nil))))) pa_nil)))))) pss_nil)
      (pss_one (ps_ret (pv 5)))))))))))))))), ok_body (Z := ⟨K, κ⟩) (O := []) (js_seq (js_par nin nin (ja_cons (j_dget (JD.w (j_var nin)) j_str) (ja_cons (j_dget (JD.w (j_var nin)) j_str) ja_nil)))
      (js_seq (js_asg (j_tup (ja_cons (j_dget (JD.w (j_var nin)) j_str) (ja_cons (j_dget (JD.w (j_var nin)) j_str) ja_nil))) (jg_tup (jg_cons (jg_name nin nofun) (jg_cons (jg_name nin nofun) jg_nil))))
      (js_seq (js_asg (j_newLo (jf_lst (ja_cons (j_tup (ja_cons (j_var nin) (ja_cons (j_tup (ja_cons (j_op upD r_ixT (j_var nin) j_int) (ja_cons (j_op upD r_add (j_op upD r_ixT (j_var nin) j_int) j_int) ja_nil))) (ja_cons (j_var nin) (ja_cons (j_var nin) ja_nil))))) ja_nil))) (jg_name nin nofun))
      (js_seq (js_appLo (j_var nin) (ja_cons (j_tup (ja_cons (j_var nin) (ja_cons (j_tup (ja_cons (j_op upD r_sub (j_op upD r_ixT (j_var nin) j_int) j_int) (ja_cons (j_op upD r_ixT (j_var nin) j_int) ja_nil))) (ja_cons (j_var nin) (ja_cons (j_var nin) ja_nil))))) ja_nil))
      (js_seq (js_if (jb_and (jb_test (j_op upD r_gt (j_op upD r_sub (j_op upD r_ixT (j_var nin) j_int) (j_op upD r_ixT (j_var nin) j_int)) j_int)) (jb_test (j_op upD r_gt (j_op upD r_ixT (j_var nin) j_int) j_int))) (js_appLo (j_var nin) (ja_cons (j_tup (ja_cons (j_tup (ja_cons (j_op upD r_ixT (j_var nin) j_int) (ja_cons (j_op upD r_sub (j_op upD r_ixT (j_var nin) j_int) j_int) ja_nil))) (ja_cons (j_var nin) (ja_cons (j_var nin) (ja_cons (j_var nin) ja_nil))))) ja_nil)) js_next)
      (js_seq (js_asg (j_tup (ja_cons (j_op upD r_ixT (j_op upD r_ixT (j_var nin) (j_un u_neg j_int)) j_int) (ja_cons (j_op upD r_repB (j_op upD r_ixT (j_op upD r_ixT (j_var nin) (j_un u_neg j_int)) j_int) j_int) ja_nil))) (jg_name nin nofun))
      (js_seq (js_appLo (j_var nin) (ja_cons (j_tup (ja_cons (j_var nin) (ja_cons (j_var nin) (ja_cons (j_var nin) (ja_cons (j_op upD r_catT (j_slT (j_var nin) jo_none (jo_some (j_un u_neg j_int))) (j_tup (ja_cons (j_var nin) ja_nil))) ja_nil))))) ja_nil))
      (js_seq (js_asg (j_tup (ja_cons (j_op upD r_ixT (j_var nin) j_int) (ja_cons (j_lc (ji_str j_str) (jg_name nin (fun w e => by cases e; decide)) jb_yes (j_op upD r_mulS (j_var nin) j_int)) ja_nil))) (jg_tup (jg_cons (jg_tup (jg_cons (jg_name nin nofun) (jg_cons (jg_name nin nofun) jg_nil))) (jg_cons (jg_name nin nofun) jg_nil))))
      (js_seq (js_asg (j_op upD r_ixT (j_var nin) j_int) (jg_tup (jg_cons (jg_name nin nofun) (jg_cons (jg_name nin nofun) (jg_cons (jg_name nin nofun) jg_nil)))))
      (js_seq (js_asg (j_tup (ja_cons (j_if (jb_test (j_op upD r_eq (j_var nin) j_str)) j_str j_str) (ja_cons (j_var nin) (ja_cons (j_var nin) ja_nil)))) (jg_name nin nofun))
      (js_seq (js_asg (j_tup (ja_cons (j_var nin) (ja_cons (j_op upD r_catT (j_tup (ja_cons (j_var nin) ja_nil)) (j_slT (j_var nin) (jo_some j_int) jo_none)) ja_nil))) (jg_name nin nofun))
      (js_seq (js_appLo (j_var nin) (ja_cons (j_tup (ja_cons (j_var nin) (ja_cons (j_var nin) (ja_cons (j_var nin) (ja_cons (j_op upD r_catT (j_tup (ja_cons (j_var nin) ja_nil)) (j_slT (j_var nin) (jo_some j_int) jo_none)) ja_nil))))) ja_nil))
      (js_seq (js_if (jb_test (j_op upD r_lt (j_cb c_len (ja_consW (JD.w (j_var nin)) ja_nil)) j_int)) (js_seq (js_asg (j_slL (JD.w (j_lc (ji_list xCo (j_var nin)) (jg_name nin (fun w e => by cases e; decide)) (jb_test (j_op upD (r_inS (neg := true)) (j_var nin) (JD.w (j_var nin)))) (j_var nin))) jo_none (jo_some j_int)) (jg_name nin nofun))
      (js_seq (js_asg (j_cb c_sorted (ja_cons (j_lc (ji_list xCo (j_op upW r_catL (JD.w (j_cb c_list (ja_consW (JD.w (j_var nin)) ja_nil))) (JD.w (j_var nin)))) (jg_name nin (fun w e => by cases e; decide)) jb_yes (j_cb c_strS (ja_cons (j_var nin) ja_nil))) ja_nil)) (jg_name nin nofun))
      (js_appLo (j_var nin) (ja_cons (j_tup (ja_cons (j_var nin) (ja_cons (j_var nin) (ja_cons (j_cb c_tuple (ja_consW (JD.w (j_var nin)) ja_nil)) (ja_cons (j_var nin) ja_nil))))) ja_nil)))) js_next)
      (js_ret (JD.w (j_var nin)))))))))))))))) (fun _ m => absurd m List.not_mem_nil) h⟩)
theorem ok__law_late {f : Addr} {fd : FuncData} (F : Fun K "_law_late" "_law_late" s__law_late f fd) (T : TxD2 mg) : FnOk P w K mg base CX0 1 f fd P__law_late (spD ⟨K, κ⟩ 1 L__law_late) := by
  exact F.ok sc__law_late (fun vs H Q E h => h.1) (fun cdv A outer s H vs Q E hr h => ⟨_, (pss_cons (ps_set (i := 1) sc__law_late.nd rfl (Or.inl rfl) pe_int)
      (pss_cons (ps_for PassesOwn.never rfl (pi_tup (pv 0)) (pg_tup rfl (pgs_cons (pg_name (i := 2) sc__law_late.nd rfl (Or.inl rfl)) (pgs_cons (pg_name (i := 3) sc__law_late.nd rfl (Or.inl rfl)) pgs_nil))) (pss_one (ps_for PassesOwn.never rfl (pi_tup (pv 3)) (pg_name (i := 4) sc__law_late.nd rfl (Or.inl rfl)) (pss_one (ps_set (i := 1) sc__law_late.nd rfl (Or.inl rfl) (pe_op op_add (pv 1) (pe_callB call_len_seq (by rfl) T.n_len (by decide +kernel) (pa_cons (pe_lc (own := [("_law_row", 5)]) (g := (gName 5))  rfl sc__law_late.nd (pi_tup (pe_ix ix_tup (pv 4) pe_int (fun _ _ => rfl))) (blkOk_by (N := N__law_late) (sc := defScope s__law_late) (by decide +kernel)) (fun _ _ _ _ _ => (pg_name (i := 5) sc__law_late.nd rfl (Or.inl rfl))) (fun _ _ _ _ _ => (pts_one (pt_cmpR op_eq (pe_slice sl_str (pe_ix ix_tup (pv 5) pe_int (fun _ _ => rfl)) (po_some (pe_un un_neg pe_int)) po_none) pe_str (nomark _)))) (fun _ _ _ _ _ => pe_int)) pa_nil))))))))
      (pss_one (ps_ret (pv 1))))), ok_body (Z := ⟨K, κ⟩) (O := []) (js_seq (js_asg j_int (jg_name nin nofun))
      (js_seq (js_for (ji_tup xS (j_var nin)) (jg_tup (jg_cons (jg_name nin nofun) (jg_cons (jg_name nin nofun) jg_nil))) (js_for (ji_tup xS (j_var nin)) (jg_name nin nofun) (js_asg (j_op upD r_add (j_var nin) (j_cb c_len (ja_consW (JD.w (j_lc (ji_tup xCo (j_op upD r_ixT (j_var nin) j_int)) (jg_name nin (fun w e => by cases e; decide)) (jb_test (j_op upD r_eq (j_slX (j_op upD r_ixT (j_var nin) j_int) (jo_some (j_un u_neg j_int)) jo_none) j_str)) j_int)) ja_nil))) (jg_name nin nofun))))
      (js_ret (JD.w (j_var nin))))) (fun _ m => absurd m List.not_mem_nil) h⟩)
theorem ok__law_made {f : Addr} {fd : FuncData} (F : Fun K "_law_made" "_law_made" s__law_made f fd) (T : TxD2 mg) (cL_World___init__ : MkI P w K mg base ⟨K, κ⟩ 7 "World" "World" P_World___init__ (spD ⟨K, κ⟩ 5 L_World___init__)) (cL_Kind___init__ : MkI P w K mg base ⟨K, κ⟩ 2 "Kind" "Kind" P_Kind___init__ (spD ⟨K, κ⟩ 3 L_Kind___init__)) : FnOk P w K mg base CX0 9 f fd P__law_made (spD ⟨K, κ⟩ 1 L__law_made) := by
  obtain ⟨f_World, fd_World, MK_World, G_World, b_World, g_World⟩ := cL_World___init__
  obtain ⟨f_Kind, fd_Kind, MK_Kind, G_Kind, b_Kind, g_Kind⟩ := cL_Kind___init__
  exact F.ok sc__law_made (fun vs H Q E h => h.1) (fun cdv A outer s H vs Q E hr h => ⟨_, (pss_cons (ps_asg (pv 0) (pg_tup rfl (pgs_cons (pg_name (i := 1) sc__law_made.nd rfl (Or.inl rfl)) (pgs_cons (pg_name (i := 2) sc__law_made.nd rfl (Or.inl rfl)) (pgs_cons (pg_name (i := 3) sc__law_made.nd rfl (Or.inl rfl)) (pgs_cons (pg_name (i := 4) sc__law_made.nd rfl (Or.inl rfl)) pgs_nil))))))
      (pss_one (ps_ret (pe_make MK_World G_World (hr.mono (by decide)) rfl g_World b_World .nil pass0 (pa_cons (pe_make MK_Kind G_Kind (hr.mono (by decide)) rfl g_Kind b_Kind .nil pass0 (pa_cons (pe_ix ix_tup (pv 1) pe_int (fun _ _ => rfl)) (pa_cons (pe_ix ix_tup (pv 1) pe_int (fun _ _ => rfl)) pa_nil))) (pa_cons (pe_make MK_Kind G_Kind (hr.mono (by decide)) rfl g_Kind b_Kind .nil pass0 (pa_cons (pe_ix ix_tup (pv 2) pe_int (fun _ _ => rfl)) (pa_cons (pe_ix ix_tup (pv 2) pe_int (fun _ _ => rfl)) pa_nil))) (pa_cons (pv 3) (pa_cons (pv 4) pa_nil)))))))), ok_body (Z := ⟨K, κ⟩) (O := []) (js_seq (js_asg (j_var nin) (jg_tup (jg_cons (jg_name nin nofun) (jg_cons (jg_name nin nofun) (jg_cons (jg_name nin nofun) (jg_cons (jg_name nin nofun) jg_nil))))))
      (js_ret (JD.w (j_makeV mk_F (ja_cons (j_makeV mk_F (ja_cons (j_op upD r_ixT (j_var nin) j_int) (ja_cons (j_op upD r_ixT (j_var nin) j_int) ja_nil)) (len_cons (len_cons (fun _ _ _ _ h => len_nil h)))) (ja_cons (j_makeV mk_F (ja_cons (j_op upD r_ixT (j_var nin) j_int) (ja_cons (j_op upD r_ixT (j_var nin) j_int) ja_nil)) (len_cons (len_cons (fun _ _ _ _ h => len_nil h)))) (ja_cons (j_var nin) (ja_cons (j_var nin) ja_nil)))) (len_cons (len_cons (len_cons (len_cons (fun _ _ _ _ h => len_nil h))))))))) (fun _ m => absurd m List.not_mem_nil) h⟩)
theorem ok__law_right {f : Addr} {fd : FuncData} (F : Fun K "_law_right" "_law_right" s__law_right f fd) (T : TxD2 mg) (cL__law_world : Cal P w K mg base 9 "_law_world" P__law_world (spD ⟨K, κ⟩ 2 L__law_world)) (CT_World : ClsI K mg ⟨K, κ⟩ "World" "World" ["narrow", "wide", "columns", "programs"]) (cL__law_ends : Cal P w K mg base 1 "_law_ends" P__law_ends (spD ⟨K, κ⟩ 1 L__law_ends)) (cL_World___init__ : MkI P w K mg base ⟨K, κ⟩ 7 "World" "World" P_World___init__ (spD ⟨K, κ⟩ 5 L_World___init__)) (cL_World___eq__ : MeI P w K mg base ⟨K, κ⟩ 2 "World" "__eq__" P_World___eq__ (spD ⟨K, κ⟩ 2 L_World___eq__)) (EA_World : EqA ⟨K, κ⟩ "World" ["Kind"]) (cL__law_made : Cal P w K mg base 9 "_law_made" P__law_made (spD ⟨K, κ⟩ 1 L__law_made)) (cL__law_others : Cal P w K mg base 1 "_law_others" P__law_others (spD ⟨K, κ⟩ 1 L__law_others)) (cL__law_late : Cal P w K mg base 1 "_law_late" P__law_late (spD ⟨K, κ⟩ 1 L__law_late)) (cL_Kind___str__ : MeI P w K mg base ⟨K, κ⟩ 1 "Kind" "__str__" P_Kind___str__ (spD ⟨K, κ⟩ 1 L_Kind___str__)) : FnG P w K mg base CX0 10 f fd P__law_right (spD ⟨K, κ⟩ 1 L__law_right) := by
  obtain ⟨f__law_world, fd__law_world, G__law_world, b__law_world, g__law_world, k__law_world⟩ := cL__law_world
  obtain ⟨f__law_ends, fd__law_ends, G__law_ends, b__law_ends, g__law_ends, k__law_ends⟩ := cL__law_ends
  obtain ⟨f_World, fd_World, MK_World, G_World, b_World, g_World⟩ := cL_World___init__
  obtain ⟨f_World___eq__, fd_World___eq__, M_World___eq__, G_World___eq__, b_World___eq__⟩ := cL_World___eq__
  obtain ⟨f__law_made, fd__law_made, G__law_made, b__law_made, g__law_made, k__law_made⟩ := cL__law_made
  obtain ⟨f__law_others, fd__law_others, G__law_others, b__law_others, g__law_others, k__law_others⟩ := cL__law_others
  obtain ⟨f__law_late, fd__law_late, G__law_late, b__law_late, g__law_late, k__law_late⟩ := cL__law_late
  obtain ⟨f_Kind___str__, fd_Kind___str__, M_Kind___str__, G_Kind___str__, b_Kind___str__⟩ := cL_Kind___str__
  exact Fun_okG F sc__law_right (fun vs H Q E h => h.1) (fun cdv A outer s H vs Q E calm hr h => ⟨_, (pss_cons (ps_set (i := 1) sc__law_right.nd rfl (Or.inl rfl) (pe_call G__law_world (hr.mono (by decide)) rfl g__law_world k__law_world b__law_world .nil pass0 (pa_cons (pv 0) (pa_cons (pe_lst (pa_cons pe_int (pa_cons pe_int (pa_cons pe_int pa_nil)))) pa_nil))))
      (pss_cons (ps_asg (pe_tup (pa_cons (pe_dget (lt_units hr.units) (pv 1) pe_str (fun _ _ => rfl)) (pa_cons (pe_tup (pa_cons (pe_dget (lt_units hr.units) (pv 1) pe_str (fun _ _ => rfl)) (pa_cons (pe_dget (lt_units hr.units) (pv 1) pe_str (fun _ _ => rfl)) (pa_cons (pe_dget (lt_units hr.units) (pv 1) pe_str (fun _ _ => rfl)) (pa_cons (pe_dget (lt_units hr.units) (pv 1) pe_str (fun _ _ => rfl)) pa_nil))))) pa_nil))) (pg_tup rfl (pgs_cons (pg_name (i := 2) sc__law_right.nd rfl (Or.inr rfl)) (pgs_cons (pg_name (i := 3) sc__law_right.nd rfl (Or.inl rfl)) pgs_nil))))
      (pss_cons (ps_set (i := 4) sc__law_right.nd rfl (Or.inl rfl) (pe_lst (pa_cons (pe_call G__law_ends (hr.mono (by decide)) rfl g__law_ends k__law_ends b__law_ends .nil pass0 (pa_cons (pe_fld (pv 2) rfl) pa_nil)) (pa_cons (pe_call G__law_ends (hr.mono (by decide)) rfl g__law_ends k__law_ends b__law_ends .nil pass0 (pa_cons (pe_fld (pv 2) rfl) pa_nil)) (pa_cons (pe_fld (pv 2) rfl) (pa_cons (pe_fld (pv 2) rfl) pa_nil))))))
      (pss_cons (ps_if (pt_cmpR op_ne (pe_callB (call_repr2 (Z := ⟨K, κ⟩) calm (hu70 hr) rfl) (by rfl) T.n_repr (by decide +kernel) (pa_cons (pv 4) pa_nil)) (pe_callB (call_repr2 (Z := ⟨K, κ⟩) calm (hu70 hr) rfl) (by rfl) T.n_repr (by decide +kernel) (pa_cons (pe_lst (pa_cons (pe_dget (lt_units hr.units) (pv 1) pe_str (fun _ _ => rfl)) (pa_cons (pe_dget (lt_units hr.units) (pv 1) pe_str (fun _ _ => rfl)) (pa_cons (pe_dget (lt_units hr.units) (pv 1) pe_str (fun _ _ => rfl)) (pa_cons (pe_dget (lt_units hr.units) (pv 1) pe_str (fun _ _ => rfl)) pa_nil))))) pa_nil)) (nomark _)) (pss_one (ps_ret pe_bl)) pss_nil)
      (pss_cons (ps_set (i := 5) sc__law_right.nd rfl (Or.inl rfl) (pe_make MK_World G_World (hr.mono (by decide)) rfl g_World b_World .nil pass0 (pa_cons (pe_fld (pv 2) rfl) (pa_cons (pe_fld (pv 2) rfl) (pa_cons (pe_fld (pv 2) rfl) (pa_cons (pe_fld (pv 2) rfl) pa_nil))))))
      (pss_cons (ps_if (PW.pt (pw_or (pt_not (pt_cmpR (op_eqA M_World___eq__.at_ M_World___eq__.fn G_World___eq__ (hr.mono (by decide)) b_World___eq__ pass0) (pv 2) (pe_call G__law_made (hr.mono (by decide)) rfl g__law_made k__law_made b__law_made .nil pass0 (pa_cons (pv 3) pa_nil)) (nomark _))) (pw_or (pt_cmpR (op_neA EA_World.ob EA_World.ne M_World___eq__.at_ M_World___eq__.fn G_World___eq__ (hr.mono (by decide)) b_World___eq__ pass0 (hu1 hr)) (pv 2) (pv 5) (nomark _)) (pw_or1 (pt_not (pt_cmpR (op_eqA M_World___eq__.at_ M_World___eq__.fn G_World___eq__ (hr.mono (by decide)) b_World___eq__ pass0) (pv 5) (pv 2) (nomark _))))))) (pss_one (ps_ret pe_bl)) pss_nil)
      (pss_cons (ps_for PassesOwn.never rfl (pi_list (pe_call G__law_others (hr.mono (by decide)) rfl g__law_others k__law_others b__law_others .nil pass0 (pa_cons (pv 1) pa_nil))) (pg_name (i := 6) sc__law_right.nd rfl (Or.inl rfl)) (pss_one (ps_if (PW.pt (pw_and (pt_val (pe_callB (cr_all rfl) (by rfl) T.n_all (by decide +kernel) (pa_cons (pe_lc (own := [("_law_one", 8)]) (g := (gName 8)) (tt := tYes) rfl sc__law_right.nd (pi_tup (pe_ix ix_tup (pv 6) pe_int (fun _ _ => rfl))) (blkOk_by (N := N__law_right) (sc := defScope s__law_right) (by decide +kernel)) (fun _ _ _ _ _ => (pg_name (i := 8) sc__law_right.nd rfl (Or.inl rfl))) (fun _ _ _ _ _ => pts_nil) (fun _ _ _ _ _ => (pe_cmpR op_lt (pe_callB call_len_seq (by rfl) T.n_len (by decide +kernel) (pa_cons (pe_ix ix_tup (pv 8) pe_int (fun _ _ => rfl)) pa_nil)) pe_int (nomark _)))) pa_nil))) (pw_and1 (pt_cmpR op_lt (pe_call G__law_late (hr.mono (by decide)) rfl g__law_late k__law_late b__law_late .nil pass0 (pa_cons (pe_ix ix_tup (pv 6) pe_int (fun _ _ => rfl)) pa_nil)) pe_int (nomark _))))) (pss_one (ps_if (PW.pt (pw_or (pt_cmpR (op_eqA M_World___eq__.at_ M_World___eq__.fn G_World___eq__ (hr.mono (by decide)) b_World___eq__ pass0) (pe_call G__law_made (hr.mono (by decide)) rfl g__law_made k__law_made b__law_made .nil pass0 (pa_cons (pv 6) pa_nil)) (pv 2) (nomark _)) (pw_or1 (pt_not (pt_cmpR (op_neA EA_World.ob EA_World.ne M_World___eq__.at_ M_World___eq__.fn G_World___eq__ (hr.mono (by decide)) b_World___eq__ pass0 (hu1 hr)) (pe_call G__law_made (hr.mono (by decide)) rfl g__law_made k__law_made b__law_made .nil pass0 (pa_cons (pv 6) pa_nil)) (pv 2) (nomark _)))))) (pss_one (ps_ret pe_bl)) pss_nil)) pss_nil)))
      (pss_cons (ps_set (i := 7) sc__law_right.nd rfl (Or.inl rfl) (pe_lst (pa_cons (pv 3) (pa_cons (pe_fld (pv 2) rfl) (pa_cons pe_non (pa_cons (pe_fld (pv 2) rfl) (pa_cons (pe_callTy (call_strI M_Kind___str__.at_ M_Kind___str__.fn G_Kind___str__ (hr.mono (by decide)) b_Kind___str__ pass0 (hu70 hr)) (by rfl) T.n_str (by decide +kernel) (pa_cons (pe_fld (pv 2) rfl) pa_nil)) (pa_cons (pe_tup (pa_cons (pe_fld (pv 2) rfl) (pa_cons (pe_fld (pv 2) rfl) pa_nil))) pa_nil))))))))
      (pss_one (ps_ret (pe_cmpR (op_eqD hr.units) (pe_lc (own := [("_law_one", 8)]) (g := (gName 8)) (tt := tYes) rfl sc__law_right.nd (pi_list (pv 7)) (blkOk_by (N := N__law_right) (sc := defScope s__law_right) (by decide +kernel)) (fun _ _ _ _ _ => (pg_name (i := 8) sc__law_right.nd rfl (Or.inl rfl))) (fun _ _ _ _ _ => pts_nil) (fun _ _ _ _ _ => (pe_cmpR (op_eqA M_World___eq__.at_ M_World___eq__.fn G_World___eq__ (hr.mono (by decide)) b_World___eq__ pass0) (pv 2) (pv 8) (nomark _)))) (pe_op op_rep (pe_lst (pa_cons pe_bl pa_nil)) pe_int) (nomark _)))))))))))), ok_body (Z := ⟨K, κ⟩) (O := []) (js_seq (js_asg (j_callV via_P (ja_cons (j_var nin) (ja_cons (j_lst (ja_cons j_int (ja_cons j_int (ja_cons j_int ja_nil)))) ja_nil)) (len_cons (len_cons (fun _ _ _ _ h => len_nil h)))) (jg_name nin nofun))
      (js_seq (js_asg (j_tup (ja_cons (j_dget (JD.w (j_var nin)) j_str) (ja_cons (j_tup (ja_cons (j_dget (JD.w (j_var nin)) j_str) (ja_cons (j_dget (JD.w (j_var nin)) j_str) (ja_cons (j_dget (JD.w (j_var nin)) j_str) (ja_cons (j_dget (JD.w (j_var nin)) j_str) ja_nil))))) ja_nil))) (jg_tup (jg_cons (jg_name nin nofun) (jg_cons (jg_name nin nofun) jg_nil))))
      (js_seq (js_asg (j_lst (ja_cons (j_callV via_id (ja_cons (j_fldI CT_World.t (.head _) (j_var nin)) ja_nil) (len_cons (fun _ _ _ _ h => len_nil h))) (ja_cons (j_callV via_id (ja_cons (j_fldI CT_World.t (.tail _ (.head _)) (j_var nin)) ja_nil) (len_cons (fun _ _ _ _ h => len_nil h))) (ja_cons (j_fldI CT_World.t (.tail _ (.tail _ (.head _))) (j_var nin)) (ja_cons (j_fldI CT_World.t (.tail _ (.tail _ (.tail _ (.head _)))) (j_var nin)) ja_nil))))) (jg_name nin nofun))
      (js_seq (js_if (jb_test (j_op upD r_ne (j_cb c_repr2 (ja_cons (j_var nin) ja_nil)) (j_cb c_repr2 (ja_cons (j_lst (ja_cons (j_dget (JD.w (j_var nin)) j_str) (ja_cons (j_dget (JD.w (j_var nin)) j_str) (ja_cons (j_dget (JD.w (j_var nin)) j_str) (ja_cons (j_dget (JD.w (j_var nin)) j_str) ja_nil))))) ja_nil)))) (js_ret (JD.w j_bl)) js_next)
      (js_seq (js_asg (j_makeV mk_F (ja_cons (j_fldI CT_World.t (.head _) (j_var nin)) (ja_cons (j_fldI CT_World.t (.tail _ (.head _)) (j_var nin)) (ja_cons (j_fldI CT_World.t (.tail _ (.tail _ (.head _))) (j_var nin)) (ja_cons (j_fldI CT_World.t (.tail _ (.tail _ (.tail _ (.head _)))) (j_var nin)) ja_nil)))) (len_cons (len_cons (len_cons (len_cons (fun _ _ _ _ h => len_nil h)))))) (jg_name nin nofun))
      (js_seq (js_if (jb_or (jb_not (jb_test (j_op upD (r_ownA EA_World via_id) (j_var nin) (j_callV via_F (ja_cons (j_var nin) ja_nil) (len_cons (fun _ _ _ _ h => len_nil h)))))) (jb_or (jb_test (j_op upD (r_neA EA_World via_id) (j_var nin) (j_var nin))) (jb_not (jb_test (j_op upD (r_ownA EA_World via_id) (j_var nin) (j_var nin)))))) (js_ret (JD.w j_bl)) js_next)
      (js_seq (js_for (ji_list xS (j_callV via_P (ja_cons (j_var nin) ja_nil) (len_cons (fun _ _ _ _ h => len_nil h)))) (jg_name nin nofun) (js_if (jb_and (jb_B (j_cb c_all (ja_consW (JD.w (j_lc (ji_tup xCo (j_op upD r_ixT (j_var nin) j_int)) (jg_name nin (fun w e => by cases e; decide)) jb_yes (j_op upD r_lt (j_cb c_len (ja_consW (JD.w (j_op upD r_ixT (j_var nin) j_int)) ja_nil)) j_int))) ja_nil))) (jb_test (j_op upD r_lt (j_callV via_id (ja_cons (j_op upD r_ixT (j_var nin) j_int) ja_nil) (len_cons (fun _ _ _ _ h => len_nil h))) j_int))) (js_if (jb_or (jb_test (j_op upD (r_ownA EA_World via_id) (j_callV via_F (ja_cons (j_var nin) ja_nil) (len_cons (fun _ _ _ _ h => len_nil h))) (j_var nin))) (jb_not (jb_test (j_op upD (r_neA EA_World via_id) (j_callV via_F (ja_cons (j_var nin) ja_nil) (len_cons (fun _ _ _ _ h => len_nil h))) (j_var nin))))) (js_ret (JD.w j_bl)) js_next) js_next))
      (js_seq (js_asg (j_lst (ja_cons (j_var nin) (ja_cons (j_fldI CT_World.t (.head _) (j_var nin)) (ja_cons j_non (ja_cons (j_fldI CT_World.t (.tail _ (.tail _ (.head _))) (j_var nin)) (ja_cons (j_cb (c_strI via_id) (ja_cons (j_fldI CT_World.t (.head _) (j_var nin)) ja_nil)) (ja_cons (j_tup (ja_cons (j_fldI CT_World.t (.head _) (j_var nin)) (ja_cons (j_fldI CT_World.t (.tail _ (.head _)) (j_var nin)) ja_nil))) ja_nil))))))) (jg_name nin nofun))
      (js_ret (JD.w (j_op upW r_eqD (JD.w (j_lc (ji_list xCo (j_var nin)) (jg_name nin (fun w e => by cases e; decide)) jb_yes (j_op upD (r_ownA EA_World via_id) (j_var nin) (j_var nin)))) (JD.w (j_op upD r_repL (j_lst (ja_cons j_bl ja_nil)) j_int))))))))))))) (fun _ m => absurd m List.not_mem_nil) h⟩)
theorem ok_law {f : Addr} {fd : FuncData} (F : Fun K "law" "law" s_law f fd) (T : TxD2 mg) (cL__law_pot : Cal P w K mg base 1 "_law_pot" P__law_pot (spD ⟨K, κ⟩ 2 L__law_pot)) (cL__law_right : CalG P w K mg base 10 "_law_right" P__law_right (spD ⟨K, κ⟩ 1 L__law_right)) : FnG P w K mg base CX0 11 f fd P_law (spD ⟨K, κ⟩ 1 L_law) := by
  obtain ⟨f__law_pot, fd__law_pot, G__law_pot, b__law_pot, g__law_pot, k__law_pot⟩ := cL__law_pot
  obtain ⟨f__law_right, fd__law_right, G__law_right, b__law_right, g__law_right, k__law_right⟩ := cL__law_right
  exact Fun_okG F sc_law (fun vs H Q E h => h.1) (fun cdv A outer s H vs Q E calm hr h => ⟨_, (pss_cons (ps_for PassesOwn.never rfl (pi_range1 rfl T.n_range (pa_cons (pe_callB (call_max2 rfl) (by rfl) T.n_max (by decide +kernel) (pa_cons pe_int (pa_cons (pe_callB (call_min2 rfl) (by rfl) T.n_min (by decide +kernel) (pa_cons pe_int (pa_cons (pe_callB call_len_seq (by rfl) T.n_len (by decide +kernel) (pa_cons (pv 0) pa_nil)) pa_nil))) pa_nil))) pa_nil)) (pg_name (i := 1) sc_law.nd rfl (Or.inl rfl)) (pss_cons (ps_set (i := 2) sc_law.nd rfl (Or.inr rfl) (pe_call G__law_pot (hr.mono (by decide)) rfl g__law_pot k__law_pot b__law_pot .nil pass0 (pa_cons (pv 0) (pa_cons (pv 1) pa_nil))))
      (pss_one (ps_if (pt_not (pt_val (pe_callB (cr_all rfl) (by rfl) T.n_all (by decide +kernel) (pa_cons (pe_lc (own := [("_law_turn", 3)]) (g := (gName 3)) (tt := tYes) rfl sc_law.nd (pi_range1 rfl T.n_range (pa_cons pe_int pa_nil)) (blkOk_by (N := N_law) (sc := defScope s_law) (by decide +kernel)) (fun _ _ _ _ _ => (pg_name (i := 3) sc_law.nd rfl (Or.inl rfl))) (fun _ _ _ _ _ => pts_nil) (fun _ _ _ _ _ => (pe_callG calm G__law_right (hr.mono (by decide)) rfl g__law_right k__law_right b__law_right pass0 (pa_cons (pv 2) pa_nil)))) pa_nil)))) (pss_one (ps_ret pe_bl)) pss_nil))))
      (pss_one (ps_ret pe_bl))), ok_body (Z := ⟨K, κ⟩) (O := []) (js_seq (js_for (ji_rg1 (ja_cons (j_cb c_max (ja_cons j_int (ja_cons (j_cb c_min (ja_cons j_int (ja_cons (j_cb c_len (ja_consW (JD.w (j_var nin)) ja_nil)) ja_nil))) ja_nil))) ja_nil)) (jg_name nin nofun) (js_seq (js_asg (j_callV via_id (ja_cons (j_var nin) (ja_cons (j_var nin) ja_nil)) (len_cons (len_cons (fun _ _ _ _ h => len_nil h)))) (jg_name nin nofun))
      (js_if (jb_not (jb_B (j_cb c_all (ja_consW (JD.w (j_lc (ji_rg1 (ja_cons j_int ja_nil)) (jg_name nin (fun w e => by cases e; decide)) jb_yes (j_callV via_id (ja_cons (j_var nin) ja_nil) (len_cons (fun _ _ _ _ h => len_nil h))))) ja_nil)))) (js_ret (JD.w j_bl)) js_next)))
      (js_ret (JD.w j_bl))) (fun _ m => absurd m List.not_mem_nil) h⟩)
end
end Zd
namespace Zd
open PySem PySem.Spec PyProof.Rows L2 Zg
def spLaw (K : PySem.W.Frag) : Sp := fun vs H Q _ => ∃ (a : Addr) (ns : List Int), vs = [.ref a] ∧ SqL K H a (ns.map V.int) ∧ ns.length ≤ 63 ∧ ∀ H', Q (.bl true) H'
theorem law_end {P : Program} {w : World} {K : PySem.W.Frag} {mg : Str → Option Value} {base : Heap} {κ : String → Addr} {k : Nat} {f : Addr} {fd : FuncData} {ps : List Str} (F : FnG P w K mg base CX0 k f fd ps (spD ⟨K, κ⟩ 1 L_law)) : FnG P w K mg base CX0 k f fd ps (spLaw K) := by
  have up : ∀ vs H Q E, spLaw K vs H Q E → spD ⟨K, κ⟩ 1 L_law vs H Q E := fun vs H Q E ⟨a, ns, ev, hs, few, k⟩ => by
    subst ev
    obtain ⟨S', e⟩ := law_true ns few
    refine ⟨rfl, ⟨[], [], []⟩, [.scr ns], [], rfl, .one (isD_scr.mpr ⟨a, rfl, ?_⟩), ⟨rfl, List.nodup_nil, nofun, nofun, fun x h => (h.elim nofun nofun), fun n x d h => by simp at h⟩, ?_⟩
    · rcases hs with hs | hs
      · exact .inl ⟨hs, fun h => h.elim nofun fun h => h.elim nofun nofun⟩
      · exact .inr fun _ => .inr hs
    · rw [e]
      exact fun H' p' _ _ v hv => by rw [isD_bl.mp hv]; exact k H'
  exact ⟨fun vs H Q E h => F.many vs H Q E (up vs H Q E h), fun A c fr s H args us vs Q E room e0 b rel h => F.goes A c fr s H args us vs Q E room e0 b rel (up vs H Q E h)⟩
theorem all_mk {l : PySem.W.OpenLaw} {w : World} {K : PySem.W.Frag} {h : Heap} {mg : Str → Option Value} {fa : Addr}
    {n_MOST_LETTERS n_LEAST_NARROW n_MOST_PACE n_MOST_IN_TWO_EVENTS : Tok}
    {C_World : Addr}
    {C_Kind : Addr}
    {a_SIDES : Addr}
    {a_RULES : Addr}
    {a_DEEDS : Addr}
    {a_READ_SIDES : Addr}
    {a_HOWS : Addr}
    {a_IN_TWO_EVENTS : Addr}
    {fis_integer : Addr} {odis_integer anis_integer : Option Addr} {slis_integer : Array (Option Value)} {ocis_integer kVis_integer dcis_integer pmis_integer cdis_integer ctis_integer : Value}
    {fis_between : Addr} {odis_between anis_between : Option Addr} {slis_between : Array (Option Value)} {ocis_between kVis_between dcis_between pmis_between cdis_between ctis_between : Value}
    {flesser : Addr} {odlesser anlesser : Option Addr} {sllesser : Array (Option Value)} {oclesser kVlesser dclesser pmlesser cdlesser ctlesser : Value}
    {fgreater : Addr} {odgreater angreater : Option Addr} {slgreater : Array (Option Value)} {ocgreater kVgreater dcgreater pmgreater cdgreater ctgreater : Value}
    {fis_name : Addr} {odis_name anis_name : Option Addr} {slis_name : Array (Option Value)} {ocis_name kVis_name dcis_name pmis_name cdis_name ctis_name : Value}
    {fis_tuple_of : Addr} {odis_tuple_of anis_tuple_of : Option Addr} {slis_tuple_of : Array (Option Value)} {ocis_tuple_of kVis_tuple_of dcis_tuple_of pmis_tuple_of cdis_tuple_of ctis_tuple_of : Value}
    {fis_ascending : Addr} {odis_ascending anis_ascending : Option Addr} {slis_ascending : Array (Option Value)} {ocis_ascending kVis_ascending dcis_ascending pmis_ascending cdis_ascending ctis_ascending : Value}
    {fKind___init__ : Addr} {odKind___init__ anKind___init__ : Option Addr} {slKind___init__ : Array (Option Value)} {ocKind___init__ kVKind___init__ dcKind___init__ pmKind___init__ cdKind___init__ ctKind___init__ : Value}
    {fKind___eq__ : Addr} {odKind___eq__ anKind___eq__ : Option Addr} {slKind___eq__ : Array (Option Value)} {ocKind___eq__ kVKind___eq__ dcKind___eq__ pmKind___eq__ cdKind___eq__ ctKind___eq__ : Value}
    {fKind___le__ : Addr} {odKind___le__ anKind___le__ : Option Addr} {slKind___le__ : Array (Option Value)} {ocKind___le__ kVKind___le__ dcKind___le__ pmKind___le__ cdKind___le__ ctKind___le__ : Value}
    {fKind___lt__ : Addr} {odKind___lt__ anKind___lt__ : Option Addr} {slKind___lt__ : Array (Option Value)} {ocKind___lt__ kVKind___lt__ dcKind___lt__ pmKind___lt__ cdKind___lt__ ctKind___lt__ : Value}
    {fKind___str__ : Addr} {odKind___str__ anKind___str__ : Option Addr} {slKind___str__ : Array (Option Value)} {ocKind___str__ kVKind___str__ dcKind___str__ pmKind___str__ cdKind___str__ ctKind___str__ : Value}
    {fWorld___init__ : Addr} {odWorld___init__ anWorld___init__ : Option Addr} {slWorld___init__ : Array (Option Value)} {ocWorld___init__ kVWorld___init__ dcWorld___init__ pmWorld___init__ cdWorld___init__ ctWorld___init__ : Value}
    {fWorld___eq__ : Addr} {odWorld___eq__ anWorld___eq__ : Option Addr} {slWorld___eq__ : Array (Option Value)} {ocWorld___eq__ kVWorld___eq__ dcWorld___eq__ pmWorld___eq__ cdWorld___eq__ ctWorld___eq__ : Value}
    {f_are_kinds : Addr} {od_are_kinds an_are_kinds : Option Addr} {sl_are_kinds : Array (Option Value)} {oc_are_kinds kV_are_kinds dc_are_kinds pm_are_kinds cd_are_kinds ct_are_kinds : Value}
    {f_are_columns : Addr} {od_are_columns an_are_columns : Option Addr} {sl_are_columns : Array (Option Value)} {oc_are_columns kV_are_columns dc_are_columns pm_are_columns cd_are_columns ct_are_columns : Value}
    {f_are_programs : Addr} {od_are_programs an_are_programs : Option Addr} {sl_are_programs : Array (Option Value)} {oc_are_programs kV_are_programs dc_are_programs pm_are_programs cd_are_programs ct_are_programs : Value}
    {f_is_program : Addr} {od_is_program an_is_program : Option Addr} {sl_is_program : Array (Option Value)} {oc_is_program kV_is_program dc_is_program pm_is_program cd_is_program ct_is_program : Value}
    {f_is_edition : Addr} {od_is_edition an_is_edition : Option Addr} {sl_is_edition : Array (Option Value)} {oc_is_edition kV_is_edition dc_is_edition pm_is_edition cd_is_edition ct_is_edition : Value}
    {f_are_rows : Addr} {od_are_rows an_are_rows : Option Addr} {sl_are_rows : Array (Option Value)} {oc_are_rows kV_are_rows dc_are_rows pm_are_rows cd_are_rows ct_are_rows : Value}
    {f_is_read : Addr} {od_is_read an_is_read : Option Addr} {sl_is_read : Array (Option Value)} {oc_is_read kV_is_read dc_is_read pm_is_read cd_is_read ct_is_read : Value}
    {f_is_write : Addr} {od_is_write an_is_write : Option Addr} {sl_is_write : Array (Option Value)} {oc_is_write kV_is_write dc_is_write pm_is_write cd_is_write ct_is_write : Value}
    {f_is_first_edition : Addr} {od_is_first_edition an_is_first_edition : Option Addr} {sl_is_first_edition : Array (Option Value)} {oc_is_first_edition kV_is_first_edition dc_is_first_edition pm_is_first_edition cd_is_first_edition ct_is_first_edition : Value}
    {f_many_in_two_events : Addr} {od_many_in_two_events an_many_in_two_events : Option Addr} {sl_many_in_two_events : Array (Option Value)} {oc_many_in_two_events kV_many_in_two_events dc_many_in_two_events pm_many_in_two_events cd_many_in_two_events ct_many_in_two_events : Value}
    {f_law_pot : Addr} {od_law_pot an_law_pot : Option Addr} {sl_law_pot : Array (Option Value)} {oc_law_pot kV_law_pot dc_law_pot pm_law_pot cd_law_pot ct_law_pot : Value}
    {f_law_take : Addr} {od_law_take an_law_take : Option Addr} {sl_law_take : Array (Option Value)} {oc_law_take kV_law_take dc_law_take pm_law_take cd_law_take ct_law_take : Value}
    {f_law_of : Addr} {od_law_of an_law_of : Option Addr} {sl_law_of : Array (Option Value)} {oc_law_of kV_law_of dc_law_of pm_law_of cd_law_of ct_law_of : Value}
    {f_law_names : Addr} {od_law_names an_law_names : Option Addr} {sl_law_names : Array (Option Value)} {oc_law_names kV_law_names dc_law_names pm_law_names cd_law_names ct_law_names : Value}
    {f_law_kinds : Addr} {od_law_kinds an_law_kinds : Option Addr} {sl_law_kinds : Array (Option Value)} {oc_law_kinds kV_law_kinds dc_law_kinds pm_law_kinds cd_law_kinds ct_law_kinds : Value}
    {f_law_reads : Addr} {od_law_reads an_law_reads : Option Addr} {sl_law_reads : Array (Option Value)} {oc_law_reads kV_law_reads dc_law_reads pm_law_reads cd_law_reads ct_law_reads : Value}
    {f_law_writes : Addr} {od_law_writes an_law_writes : Option Addr} {sl_law_writes : Array (Option Value)} {oc_law_writes kV_law_writes dc_law_writes pm_law_writes cd_law_writes ct_law_writes : Value}
    {f_law_edition : Addr} {od_law_edition an_law_edition : Option Addr} {sl_law_edition : Array (Option Value)} {oc_law_edition kV_law_edition dc_law_edition pm_law_edition cd_law_edition ct_law_edition : Value}
    {f_law_world : Addr} {od_law_world an_law_world : Option Addr} {sl_law_world : Array (Option Value)} {oc_law_world kV_law_world dc_law_world pm_law_world cd_law_world ct_law_world : Value}
    {f_law_ends : Addr} {od_law_ends an_law_ends : Option Addr} {sl_law_ends : Array (Option Value)} {oc_law_ends kV_law_ends dc_law_ends pm_law_ends cd_law_ends ct_law_ends : Value}
    {f_law_others : Addr} {od_law_others an_law_others : Option Addr} {sl_law_others : Array (Option Value)} {oc_law_others kV_law_others dc_law_others pm_law_others cd_law_others ct_law_others : Value}
    {f_law_late : Addr} {od_law_late an_law_late : Option Addr} {sl_law_late : Array (Option Value)} {oc_law_late kV_law_late dc_law_late pm_law_late cd_law_late ct_law_late : Value}
    {f_law_made : Addr} {od_law_made an_law_made : Option Addr} {sl_law_made : Array (Option Value)} {oc_law_made kV_law_made dc_law_made pm_law_made cd_law_made ct_law_made : Value}
    {f_law_right : Addr} {od_law_right an_law_right : Option Addr} {sl_law_right : Array (Option Value)} {oc_law_right kV_law_right dc_law_right pm_law_right cd_law_right ct_law_right : Value}
    {flaw : Addr} {odlaw anlaw : Option Addr} {sllaw : Array (Option Value)} {oclaw kVlaw dclaw pmlaw cdlaw ctlaw : Value}
    (X : K.In h) (G : h.Ns mainGlobals mg) (hfa : mg "law" = some (.ref fa))
    (haCWorld : PySem.W.nsIn K mainGlobals "World" = some (some (.ref C_World)))
    (hpgWorld : PySem.W.plainGet K C_World Str.empty = true)
    (hhdWorld : PySem.W.hasDictIn K C_World = true)
    (hpoWorld : PySem.W.plainOver K C_World = true)
    (hsaWorld : PySem.W.findIn K (.ref C_World) "__setattr__" = some (some (.builtin "object.__setattr__")))
    (hmkWorld : PySem.W.makesIn K C_World = true)
    (hkcWorld : PySem.W.keepIn K (.ref C_World) = true)
    (hx1World : PySem.W.findIn K (.ref C_World) "__class__" = some (some (.builtin "object.__class__")))
    (hx4World : PySem.W.mroIn K C_World (.type "object") = some true)
    (hnWorld_narrow : PySem.W.findIn K (.ref C_World) "narrow" = some none)
    (hnWorld_wide : PySem.W.findIn K (.ref C_World) "wide" = some none)
    (hnWorld_columns : PySem.W.findIn K (.ref C_World) "columns" = some none)
    (hnWorld_programs : PySem.W.findIn K (.ref C_World) "programs" = some none)
    (haCKind : PySem.W.nsIn K mainGlobals "Kind" = some (some (.ref C_Kind)))
    (hpgKind : PySem.W.plainGet K C_Kind Str.empty = true)
    (hhdKind : PySem.W.hasDictIn K C_Kind = true)
    (hpoKind : PySem.W.plainOver K C_Kind = true)
    (hsaKind : PySem.W.findIn K (.ref C_Kind) "__setattr__" = some (some (.builtin "object.__setattr__")))
    (hmkKind : PySem.W.makesIn K C_Kind = true)
    (hkcKind : PySem.W.keepIn K (.ref C_Kind) = true)
    (hx1Kind : PySem.W.findIn K (.ref C_Kind) "__class__" = some (some (.builtin "object.__class__")))
    (hx4Kind : PySem.W.mroIn K C_Kind (.type "object") = some true)
    (hnKind_low : PySem.W.findIn K (.ref C_Kind) "low" = some none)
    (hnKind_high : PySem.W.findIn K (.ref C_Kind) "high" = some none)
    (hnKind_size : PySem.W.findIn K (.ref C_Kind) "size" = some none)
    (hgnMOST_LETTERS : PySem.W.nsIn K mainGlobals "MOST_LETTERS" = some (some (.int 8 n_MOST_LETTERS)))
    (hgnLEAST_NARROW : PySem.W.nsIn K mainGlobals "LEAST_NARROW" = some (some (.int 16 n_LEAST_NARROW)))
    (hgnMOST_PACE : PySem.W.nsIn K mainGlobals "MOST_PACE" = some (some (.int 99 n_MOST_PACE)))
    (hgnMOST_IN_TWO_EVENTS : PySem.W.nsIn K mainGlobals "MOST_IN_TWO_EVENTS" = some (some (.int 2 n_MOST_IN_TWO_EVENTS)))
    (hu0SIDES : PySem.W.nsIn K mainGlobals "SIDES" = some (some (.ref a_SIDES)))
    (hu1SIDES : tupW K a_SIDES = some (["narrow", "wide"] : List Str))
    (hu0RULES : PySem.W.nsIn K mainGlobals "RULES" = some (some (.ref a_RULES)))
    (hu1RULES : tupW K a_RULES = some (["cut", "empty", "refuse"] : List Str))
    (hu0DEEDS : PySem.W.nsIn K mainGlobals "DEEDS" = some (some (.ref a_DEEDS)))
    (hu1DEEDS : tupW K a_DEEDS = some (["match", "order", "show"] : List Str))
    (hu0READ_SIDES : PySem.W.nsIn K mainGlobals "READ_SIDES" = some (some (.ref a_READ_SIDES)))
    (hu1READ_SIDES : tupW K a_READ_SIDES = some (["narrow", "wide", "either"] : List Str))
    (hu0HOWS : PySem.W.nsIn K mainGlobals "HOWS" = some (some (.ref a_HOWS)))
    (hu1HOWS : tupW K a_HOWS = some (["narrow", "wide", "both", "narrow first", "wide first"] : List Str))
    (hu0IN_TWO_EVENTS : PySem.W.nsIn K mainGlobals "IN_TWO_EVENTS" = some (some (.ref a_IN_TWO_EVENTS)))
    (hu1IN_TWO_EVENTS : tupW K a_IN_TWO_EVENTS = some (["narrow first", "wide first"] : List Str))
    (hzdict : PySem.W.nsIn K mainGlobals "dict" = some none)
    (heW4 : PySem.W.specialIn K (.builtin "object.__class__") "__get__" = some (some (.builtin "getset_descriptor.__get__")))
    (heW5 : PySem.W.takesIn K (.builtin "object.__class__") = some true)
    (hzsorted : PySem.W.nsIn K mainGlobals "sorted" = some none)
    (heanfWorldNoneType : PySem.W.notFirst K C_World (.type "NoneType") = true)
    (heanfWorldbool : PySem.W.notFirst K C_World (.type "bool") = true)
    (heanfWorldint : PySem.W.notFirst K C_World (.type "int") = true)
    (heanfWorldstr : PySem.W.notFirst K C_World (.type "str") = true)
    (heanfWorldlist : PySem.W.notFirst K C_World (.type "list") = true)
    (heanfWorldtuple : PySem.W.notFirst K C_World (.type "tuple") = true)
    (heanfWorlddict : PySem.W.notFirst K C_World (.type "dict") = true)
    (heankWorldNoneType : PySem.W.kitOne K (.type "NoneType") (.ref C_World) = some false)
    (heankWorldbool : PySem.W.kitOne K (.type "bool") (.ref C_World) = some false)
    (heankWorldint : PySem.W.kitOne K (.type "int") (.ref C_World) = some false)
    (heankWorldstr : PySem.W.kitOne K (.type "str") (.ref C_World) = some false)
    (heankWorldlist : PySem.W.kitOne K (.type "list") (.ref C_World) = some false)
    (heankWorldtuple : PySem.W.kitOne K (.type "tuple") (.ref C_World) = some false)
    (heankWorlddict : PySem.W.kitOne K (.type "dict") (.ref C_World) = some false)
    (heansWorld : PySem.W.notFirst K C_World (.ref C_World) = true)
    (heaneWorld : PySem.W.findIn K (.ref C_World) "__ne__" = some (some (.builtin "object.__ne__")))
    (heacfWorldKind : PySem.W.notFirst K C_World (.ref C_Kind) = true)
    (heackWorldKind : PySem.W.kitOne K (.ref C_Kind) (.ref C_World) = some false)
    (hais_integer : PySem.W.nsIn K mainGlobals "is_integer" = some (some (.ref fis_integer)))
    (hlis_integer : K.lookup fis_integer = some ⟨ocis_integer, odis_integer, .func (PySem.W.fnOf "is_integer" "is_integer" (defArgs s_is_integer) (defBody s_is_integer) (defScope s_is_integer) .none kVis_integer dcis_integer pmis_integer anis_integer cdis_integer ctis_integer), slis_integer⟩)
    (hcis_integer : PySem.W.codeIn K cdis_integer "is_integer" = true)
    (hkis_integer : PySem.W.keepIn K (.ref fis_integer) = true)
    (hais_between : PySem.W.nsIn K mainGlobals "is_between" = some (some (.ref fis_between)))
    (hlis_between : K.lookup fis_between = some ⟨ocis_between, odis_between, .func (PySem.W.fnOf "is_between" "is_between" (defArgs s_is_between) (defBody s_is_between) (defScope s_is_between) .none kVis_between dcis_between pmis_between anis_between cdis_between ctis_between), slis_between⟩)
    (hcis_between : PySem.W.codeIn K cdis_between "is_between" = true)
    (hkis_between : PySem.W.keepIn K (.ref fis_between) = true)
    (halesser : PySem.W.nsIn K mainGlobals "lesser" = some (some (.ref flesser)))
    (hllesser : K.lookup flesser = some ⟨oclesser, odlesser, .func (PySem.W.fnOf "lesser" "lesser" (defArgs s_lesser) (defBody s_lesser) (defScope s_lesser) .none kVlesser dclesser pmlesser anlesser cdlesser ctlesser), sllesser⟩)
    (hclesser : PySem.W.codeIn K cdlesser "lesser" = true)
    (hklesser : PySem.W.keepIn K (.ref flesser) = true)
    (hagreater : PySem.W.nsIn K mainGlobals "greater" = some (some (.ref fgreater)))
    (hlgreater : K.lookup fgreater = some ⟨ocgreater, odgreater, .func (PySem.W.fnOf "greater" "greater" (defArgs s_greater) (defBody s_greater) (defScope s_greater) .none kVgreater dcgreater pmgreater angreater cdgreater ctgreater), slgreater⟩)
    (hcgreater : PySem.W.codeIn K cdgreater "greater" = true)
    (hkgreater : PySem.W.keepIn K (.ref fgreater) = true)
    (hais_name : PySem.W.nsIn K mainGlobals "is_name" = some (some (.ref fis_name)))
    (hlis_name : K.lookup fis_name = some ⟨ocis_name, odis_name, .func (PySem.W.fnOf "is_name" "is_name" (defArgs s_is_name) (defBody s_is_name) (defScope s_is_name) .none kVis_name dcis_name pmis_name anis_name cdis_name ctis_name), slis_name⟩)
    (hcis_name : PySem.W.codeIn K cdis_name "is_name" = true)
    (hkis_name : PySem.W.keepIn K (.ref fis_name) = true)
    (hais_tuple_of : PySem.W.nsIn K mainGlobals "is_tuple_of" = some (some (.ref fis_tuple_of)))
    (hlis_tuple_of : K.lookup fis_tuple_of = some ⟨ocis_tuple_of, odis_tuple_of, .func (PySem.W.fnOf "is_tuple_of" "is_tuple_of" (defArgs s_is_tuple_of) (defBody s_is_tuple_of) (defScope s_is_tuple_of) .none kVis_tuple_of dcis_tuple_of pmis_tuple_of anis_tuple_of cdis_tuple_of ctis_tuple_of), slis_tuple_of⟩)
    (hcis_tuple_of : PySem.W.codeIn K cdis_tuple_of "is_tuple_of" = true)
    (hkis_tuple_of : PySem.W.keepIn K (.ref fis_tuple_of) = true)
    (hais_ascending : PySem.W.nsIn K mainGlobals "is_ascending" = some (some (.ref fis_ascending)))
    (hlis_ascending : K.lookup fis_ascending = some ⟨ocis_ascending, odis_ascending, .func (PySem.W.fnOf "is_ascending" "is_ascending" (defArgs s_is_ascending) (defBody s_is_ascending) (defScope s_is_ascending) .none kVis_ascending dcis_ascending pmis_ascending anis_ascending cdis_ascending ctis_ascending), slis_ascending⟩)
    (hcis_ascending : PySem.W.codeIn K cdis_ascending "is_ascending" = true)
    (hkis_ascending : PySem.W.keepIn K (.ref fis_ascending) = true)
    (haKind___init__ : PySem.W.findIn K (.ref C_Kind) "__init__" = some (some (.ref fKind___init__)))
    (hiKind___init__ : PySem.W.isFn K (.ref fKind___init__) = true)
    (hlKind___init__ : K.lookup fKind___init__ = some ⟨ocKind___init__, odKind___init__, .func (PySem.W.fnOf "__init__" "Kind.__init__" (defArgs s_Kind___init__) (defBody s_Kind___init__) (defScope s_Kind___init__) .none kVKind___init__ dcKind___init__ pmKind___init__ anKind___init__ cdKind___init__ ctKind___init__), slKind___init__⟩)
    (hcKind___init__ : PySem.W.codeIn K cdKind___init__ "Kind.__init__" = true)
    (hkKind___init__ : PySem.W.keepIn K (.ref fKind___init__) = true)
    (haKind___eq__ : PySem.W.findIn K (.ref C_Kind) "__eq__" = some (some (.ref fKind___eq__)))
    (hiKind___eq__ : PySem.W.isFn K (.ref fKind___eq__) = true)
    (hlKind___eq__ : K.lookup fKind___eq__ = some ⟨ocKind___eq__, odKind___eq__, .func (PySem.W.fnOf "__eq__" "Kind.__eq__" (defArgs s_Kind___eq__) (defBody s_Kind___eq__) (defScope s_Kind___eq__) .none kVKind___eq__ dcKind___eq__ pmKind___eq__ anKind___eq__ cdKind___eq__ ctKind___eq__), slKind___eq__⟩)
    (hcKind___eq__ : PySem.W.codeIn K cdKind___eq__ "Kind.__eq__" = true)
    (hkKind___eq__ : PySem.W.keepIn K (.ref fKind___eq__) = true)
    (haKind___le__ : PySem.W.findIn K (.ref C_Kind) "__le__" = some (some (.ref fKind___le__)))
    (hiKind___le__ : PySem.W.isFn K (.ref fKind___le__) = true)
    (hlKind___le__ : K.lookup fKind___le__ = some ⟨ocKind___le__, odKind___le__, .func (PySem.W.fnOf "__le__" "Kind.__le__" (defArgs s_Kind___le__) (defBody s_Kind___le__) (defScope s_Kind___le__) .none kVKind___le__ dcKind___le__ pmKind___le__ anKind___le__ cdKind___le__ ctKind___le__), slKind___le__⟩)
    (hcKind___le__ : PySem.W.codeIn K cdKind___le__ "Kind.__le__" = true)
    (hkKind___le__ : PySem.W.keepIn K (.ref fKind___le__) = true)
    (haKind___lt__ : PySem.W.findIn K (.ref C_Kind) "__lt__" = some (some (.ref fKind___lt__)))
    (hiKind___lt__ : PySem.W.isFn K (.ref fKind___lt__) = true)
    (hlKind___lt__ : K.lookup fKind___lt__ = some ⟨ocKind___lt__, odKind___lt__, .func (PySem.W.fnOf "__lt__" "Kind.__lt__" (defArgs s_Kind___lt__) (defBody s_Kind___lt__) (defScope s_Kind___lt__) .none kVKind___lt__ dcKind___lt__ pmKind___lt__ anKind___lt__ cdKind___lt__ ctKind___lt__), slKind___lt__⟩)
    (hcKind___lt__ : PySem.W.codeIn K cdKind___lt__ "Kind.__lt__" = true)
    (hkKind___lt__ : PySem.W.keepIn K (.ref fKind___lt__) = true)
    (haKind___str__ : PySem.W.findIn K (.ref C_Kind) "__str__" = some (some (.ref fKind___str__)))
    (hiKind___str__ : PySem.W.isFn K (.ref fKind___str__) = true)
    (hlKind___str__ : K.lookup fKind___str__ = some ⟨ocKind___str__, odKind___str__, .func (PySem.W.fnOf "__str__" "Kind.__str__" (defArgs s_Kind___str__) (defBody s_Kind___str__) (defScope s_Kind___str__) .none kVKind___str__ dcKind___str__ pmKind___str__ anKind___str__ cdKind___str__ ctKind___str__), slKind___str__⟩)
    (hcKind___str__ : PySem.W.codeIn K cdKind___str__ "Kind.__str__" = true)
    (hkKind___str__ : PySem.W.keepIn K (.ref fKind___str__) = true)
    (haWorld___init__ : PySem.W.findIn K (.ref C_World) "__init__" = some (some (.ref fWorld___init__)))
    (hiWorld___init__ : PySem.W.isFn K (.ref fWorld___init__) = true)
    (hlWorld___init__ : K.lookup fWorld___init__ = some ⟨ocWorld___init__, odWorld___init__, .func (PySem.W.fnOf "__init__" "World.__init__" (defArgs s_World___init__) (defBody s_World___init__) (defScope s_World___init__) .none kVWorld___init__ dcWorld___init__ pmWorld___init__ anWorld___init__ cdWorld___init__ ctWorld___init__), slWorld___init__⟩)
    (hcWorld___init__ : PySem.W.codeIn K cdWorld___init__ "World.__init__" = true)
    (hkWorld___init__ : PySem.W.keepIn K (.ref fWorld___init__) = true)
    (haWorld___eq__ : PySem.W.findIn K (.ref C_World) "__eq__" = some (some (.ref fWorld___eq__)))
    (hiWorld___eq__ : PySem.W.isFn K (.ref fWorld___eq__) = true)
    (hlWorld___eq__ : K.lookup fWorld___eq__ = some ⟨ocWorld___eq__, odWorld___eq__, .func (PySem.W.fnOf "__eq__" "World.__eq__" (defArgs s_World___eq__) (defBody s_World___eq__) (defScope s_World___eq__) .none kVWorld___eq__ dcWorld___eq__ pmWorld___eq__ anWorld___eq__ cdWorld___eq__ ctWorld___eq__), slWorld___eq__⟩)
    (hcWorld___eq__ : PySem.W.codeIn K cdWorld___eq__ "World.__eq__" = true)
    (hkWorld___eq__ : PySem.W.keepIn K (.ref fWorld___eq__) = true)
    (ha_are_kinds : PySem.W.nsIn K mainGlobals "_are_kinds" = some (some (.ref f_are_kinds)))
    (hl_are_kinds : K.lookup f_are_kinds = some ⟨oc_are_kinds, od_are_kinds, .func (PySem.W.fnOf "_are_kinds" "_are_kinds" (defArgs s__are_kinds) (defBody s__are_kinds) (defScope s__are_kinds) .none kV_are_kinds dc_are_kinds pm_are_kinds an_are_kinds cd_are_kinds ct_are_kinds), sl_are_kinds⟩)
    (hc_are_kinds : PySem.W.codeIn K cd_are_kinds "_are_kinds" = true)
    (hk_are_kinds : PySem.W.keepIn K (.ref f_are_kinds) = true)
    (ha_are_columns : PySem.W.nsIn K mainGlobals "_are_columns" = some (some (.ref f_are_columns)))
    (hl_are_columns : K.lookup f_are_columns = some ⟨oc_are_columns, od_are_columns, .func (PySem.W.fnOf "_are_columns" "_are_columns" (defArgs s__are_columns) (defBody s__are_columns) (defScope s__are_columns) .none kV_are_columns dc_are_columns pm_are_columns an_are_columns cd_are_columns ct_are_columns), sl_are_columns⟩)
    (hc_are_columns : PySem.W.codeIn K cd_are_columns "_are_columns" = true)
    (hk_are_columns : PySem.W.keepIn K (.ref f_are_columns) = true)
    (ha_are_programs : PySem.W.nsIn K mainGlobals "_are_programs" = some (some (.ref f_are_programs)))
    (hl_are_programs : K.lookup f_are_programs = some ⟨oc_are_programs, od_are_programs, .func (PySem.W.fnOf "_are_programs" "_are_programs" (defArgs s__are_programs) (defBody s__are_programs) (defScope s__are_programs) .none kV_are_programs dc_are_programs pm_are_programs an_are_programs cd_are_programs ct_are_programs), sl_are_programs⟩)
    (hc_are_programs : PySem.W.codeIn K cd_are_programs "_are_programs" = true)
    (hk_are_programs : PySem.W.keepIn K (.ref f_are_programs) = true)
    (ha_is_program : PySem.W.nsIn K mainGlobals "_is_program" = some (some (.ref f_is_program)))
    (hl_is_program : K.lookup f_is_program = some ⟨oc_is_program, od_is_program, .func (PySem.W.fnOf "_is_program" "_is_program" (defArgs s__is_program) (defBody s__is_program) (defScope s__is_program) .none kV_is_program dc_is_program pm_is_program an_is_program cd_is_program ct_is_program), sl_is_program⟩)
    (hc_is_program : PySem.W.codeIn K cd_is_program "_is_program" = true)
    (hk_is_program : PySem.W.keepIn K (.ref f_is_program) = true)
    (ha_is_edition : PySem.W.nsIn K mainGlobals "_is_edition" = some (some (.ref f_is_edition)))
    (hl_is_edition : K.lookup f_is_edition = some ⟨oc_is_edition, od_is_edition, .func (PySem.W.fnOf "_is_edition" "_is_edition" (defArgs s__is_edition) (defBody s__is_edition) (defScope s__is_edition) .none kV_is_edition dc_is_edition pm_is_edition an_is_edition cd_is_edition ct_is_edition), sl_is_edition⟩)
    (hc_is_edition : PySem.W.codeIn K cd_is_edition "_is_edition" = true)
    (hk_is_edition : PySem.W.keepIn K (.ref f_is_edition) = true)
    (ha_are_rows : PySem.W.nsIn K mainGlobals "_are_rows" = some (some (.ref f_are_rows)))
    (hl_are_rows : K.lookup f_are_rows = some ⟨oc_are_rows, od_are_rows, .func (PySem.W.fnOf "_are_rows" "_are_rows" (defArgs s__are_rows) (defBody s__are_rows) (defScope s__are_rows) .none kV_are_rows dc_are_rows pm_are_rows an_are_rows cd_are_rows ct_are_rows), sl_are_rows⟩)
    (hc_are_rows : PySem.W.codeIn K cd_are_rows "_are_rows" = true)
    (hk_are_rows : PySem.W.keepIn K (.ref f_are_rows) = true)
    (ha_is_read : PySem.W.nsIn K mainGlobals "_is_read" = some (some (.ref f_is_read)))
    (hl_is_read : K.lookup f_is_read = some ⟨oc_is_read, od_is_read, .func (PySem.W.fnOf "_is_read" "_is_read" (defArgs s__is_read) (defBody s__is_read) (defScope s__is_read) .none kV_is_read dc_is_read pm_is_read an_is_read cd_is_read ct_is_read), sl_is_read⟩)
    (hc_is_read : PySem.W.codeIn K cd_is_read "_is_read" = true)
    (hk_is_read : PySem.W.keepIn K (.ref f_is_read) = true)
    (ha_is_write : PySem.W.nsIn K mainGlobals "_is_write" = some (some (.ref f_is_write)))
    (hl_is_write : K.lookup f_is_write = some ⟨oc_is_write, od_is_write, .func (PySem.W.fnOf "_is_write" "_is_write" (defArgs s__is_write) (defBody s__is_write) (defScope s__is_write) .none kV_is_write dc_is_write pm_is_write an_is_write cd_is_write ct_is_write), sl_is_write⟩)
    (hc_is_write : PySem.W.codeIn K cd_is_write "_is_write" = true)
    (hk_is_write : PySem.W.keepIn K (.ref f_is_write) = true)
    (ha_is_first_edition : PySem.W.nsIn K mainGlobals "_is_first_edition" = some (some (.ref f_is_first_edition)))
    (hl_is_first_edition : K.lookup f_is_first_edition = some ⟨oc_is_first_edition, od_is_first_edition, .func (PySem.W.fnOf "_is_first_edition" "_is_first_edition" (defArgs s__is_first_edition) (defBody s__is_first_edition) (defScope s__is_first_edition) .none kV_is_first_edition dc_is_first_edition pm_is_first_edition an_is_first_edition cd_is_first_edition ct_is_first_edition), sl_is_first_edition⟩)
    (hc_is_first_edition : PySem.W.codeIn K cd_is_first_edition "_is_first_edition" = true)
    (hk_is_first_edition : PySem.W.keepIn K (.ref f_is_first_edition) = true)
    (ha_many_in_two_events : PySem.W.nsIn K mainGlobals "_many_in_two_events" = some (some (.ref f_many_in_two_events)))
    (hl_many_in_two_events : K.lookup f_many_in_two_events = some ⟨oc_many_in_two_events, od_many_in_two_events, .func (PySem.W.fnOf "_many_in_two_events" "_many_in_two_events" (defArgs s__many_in_two_events) (defBody s__many_in_two_events) (defScope s__many_in_two_events) .none kV_many_in_two_events dc_many_in_two_events pm_many_in_two_events an_many_in_two_events cd_many_in_two_events ct_many_in_two_events), sl_many_in_two_events⟩)
    (hc_many_in_two_events : PySem.W.codeIn K cd_many_in_two_events "_many_in_two_events" = true)
    (hk_many_in_two_events : PySem.W.keepIn K (.ref f_many_in_two_events) = true)
    (ha_law_pot : PySem.W.nsIn K mainGlobals "_law_pot" = some (some (.ref f_law_pot)))
    (hl_law_pot : K.lookup f_law_pot = some ⟨oc_law_pot, od_law_pot, .func (PySem.W.fnOf "_law_pot" "_law_pot" (defArgs s__law_pot) (defBody s__law_pot) (defScope s__law_pot) .none kV_law_pot dc_law_pot pm_law_pot an_law_pot cd_law_pot ct_law_pot), sl_law_pot⟩)
    (hc_law_pot : PySem.W.codeIn K cd_law_pot "_law_pot" = true)
    (hk_law_pot : PySem.W.keepIn K (.ref f_law_pot) = true)
    (ha_law_take : PySem.W.nsIn K mainGlobals "_law_take" = some (some (.ref f_law_take)))
    (hl_law_take : K.lookup f_law_take = some ⟨oc_law_take, od_law_take, .func (PySem.W.fnOf "_law_take" "_law_take" (defArgs s__law_take) (defBody s__law_take) (defScope s__law_take) .none kV_law_take dc_law_take pm_law_take an_law_take cd_law_take ct_law_take), sl_law_take⟩)
    (hc_law_take : PySem.W.codeIn K cd_law_take "_law_take" = true)
    (hk_law_take : PySem.W.keepIn K (.ref f_law_take) = true)
    (ha_law_of : PySem.W.nsIn K mainGlobals "_law_of" = some (some (.ref f_law_of)))
    (hl_law_of : K.lookup f_law_of = some ⟨oc_law_of, od_law_of, .func (PySem.W.fnOf "_law_of" "_law_of" (defArgs s__law_of) (defBody s__law_of) (defScope s__law_of) .none kV_law_of dc_law_of pm_law_of an_law_of cd_law_of ct_law_of), sl_law_of⟩)
    (hc_law_of : PySem.W.codeIn K cd_law_of "_law_of" = true)
    (hk_law_of : PySem.W.keepIn K (.ref f_law_of) = true)
    (ha_law_names : PySem.W.nsIn K mainGlobals "_law_names" = some (some (.ref f_law_names)))
    (hl_law_names : K.lookup f_law_names = some ⟨oc_law_names, od_law_names, .func (PySem.W.fnOf "_law_names" "_law_names" (defArgs s__law_names) (defBody s__law_names) (defScope s__law_names) .none kV_law_names dc_law_names pm_law_names an_law_names cd_law_names ct_law_names), sl_law_names⟩)
    (hc_law_names : PySem.W.codeIn K cd_law_names "_law_names" = true)
    (hk_law_names : PySem.W.keepIn K (.ref f_law_names) = true)
    (ha_law_kinds : PySem.W.nsIn K mainGlobals "_law_kinds" = some (some (.ref f_law_kinds)))
    (hl_law_kinds : K.lookup f_law_kinds = some ⟨oc_law_kinds, od_law_kinds, .func (PySem.W.fnOf "_law_kinds" "_law_kinds" (defArgs s__law_kinds) (defBody s__law_kinds) (defScope s__law_kinds) .none kV_law_kinds dc_law_kinds pm_law_kinds an_law_kinds cd_law_kinds ct_law_kinds), sl_law_kinds⟩)
    (hc_law_kinds : PySem.W.codeIn K cd_law_kinds "_law_kinds" = true)
    (hk_law_kinds : PySem.W.keepIn K (.ref f_law_kinds) = true)
    (ha_law_reads : PySem.W.nsIn K mainGlobals "_law_reads" = some (some (.ref f_law_reads)))
    (hl_law_reads : K.lookup f_law_reads = some ⟨oc_law_reads, od_law_reads, .func (PySem.W.fnOf "_law_reads" "_law_reads" (defArgs s__law_reads) (defBody s__law_reads) (defScope s__law_reads) .none kV_law_reads dc_law_reads pm_law_reads an_law_reads cd_law_reads ct_law_reads), sl_law_reads⟩)
    (hc_law_reads : PySem.W.codeIn K cd_law_reads "_law_reads" = true)
    (hk_law_reads : PySem.W.keepIn K (.ref f_law_reads) = true)
    (ha_law_writes : PySem.W.nsIn K mainGlobals "_law_writes" = some (some (.ref f_law_writes)))
    (hl_law_writes : K.lookup f_law_writes = some ⟨oc_law_writes, od_law_writes, .func (PySem.W.fnOf "_law_writes" "_law_writes" (defArgs s__law_writes) (defBody s__law_writes) (defScope s__law_writes) .none kV_law_writes dc_law_writes pm_law_writes an_law_writes cd_law_writes ct_law_writes), sl_law_writes⟩)
    (hc_law_writes : PySem.W.codeIn K cd_law_writes "_law_writes" = true)
    (hk_law_writes : PySem.W.keepIn K (.ref f_law_writes) = true)
    (ha_law_edition : PySem.W.nsIn K mainGlobals "_law_edition" = some (some (.ref f_law_edition)))
    (hl_law_edition : K.lookup f_law_edition = some ⟨oc_law_edition, od_law_edition, .func (PySem.W.fnOf "_law_edition" "_law_edition" (defArgs s__law_edition) (defBody s__law_edition) (defScope s__law_edition) .none kV_law_edition dc_law_edition pm_law_edition an_law_edition cd_law_edition ct_law_edition), sl_law_edition⟩)
    (hc_law_edition : PySem.W.codeIn K cd_law_edition "_law_edition" = true)
    (hk_law_edition : PySem.W.keepIn K (.ref f_law_edition) = true)
    (ha_law_world : PySem.W.nsIn K mainGlobals "_law_world" = some (some (.ref f_law_world)))
    (hl_law_world : K.lookup f_law_world = some ⟨oc_law_world, od_law_world, .func (PySem.W.fnOf "_law_world" "_law_world" (defArgs s__law_world) (defBody s__law_world) (defScope s__law_world) .none kV_law_world dc_law_world pm_law_world an_law_world cd_law_world ct_law_world), sl_law_world⟩)
    (hc_law_world : PySem.W.codeIn K cd_law_world "_law_world" = true)
    (hk_law_world : PySem.W.keepIn K (.ref f_law_world) = true)
    (ha_law_ends : PySem.W.nsIn K mainGlobals "_law_ends" = some (some (.ref f_law_ends)))
    (hl_law_ends : K.lookup f_law_ends = some ⟨oc_law_ends, od_law_ends, .func (PySem.W.fnOf "_law_ends" "_law_ends" (defArgs s__law_ends) (defBody s__law_ends) (defScope s__law_ends) .none kV_law_ends dc_law_ends pm_law_ends an_law_ends cd_law_ends ct_law_ends), sl_law_ends⟩)
    (hc_law_ends : PySem.W.codeIn K cd_law_ends "_law_ends" = true)
    (hk_law_ends : PySem.W.keepIn K (.ref f_law_ends) = true)
    (ha_law_others : PySem.W.nsIn K mainGlobals "_law_others" = some (some (.ref f_law_others)))
    (hl_law_others : K.lookup f_law_others = some ⟨oc_law_others, od_law_others, .func (PySem.W.fnOf "_law_others" "_law_others" (defArgs s__law_others) (defBody s__law_others) (defScope s__law_others) .none kV_law_others dc_law_others pm_law_others an_law_others cd_law_others ct_law_others), sl_law_others⟩)
    (hc_law_others : PySem.W.codeIn K cd_law_others "_law_others" = true)
    (hk_law_others : PySem.W.keepIn K (.ref f_law_others) = true)
    (ha_law_late : PySem.W.nsIn K mainGlobals "_law_late" = some (some (.ref f_law_late)))
    (hl_law_late : K.lookup f_law_late = some ⟨oc_law_late, od_law_late, .func (PySem.W.fnOf "_law_late" "_law_late" (defArgs s__law_late) (defBody s__law_late) (defScope s__law_late) .none kV_law_late dc_law_late pm_law_late an_law_late cd_law_late ct_law_late), sl_law_late⟩)
    (hc_law_late : PySem.W.codeIn K cd_law_late "_law_late" = true)
    (hk_law_late : PySem.W.keepIn K (.ref f_law_late) = true)
    (ha_law_made : PySem.W.nsIn K mainGlobals "_law_made" = some (some (.ref f_law_made)))
    (hl_law_made : K.lookup f_law_made = some ⟨oc_law_made, od_law_made, .func (PySem.W.fnOf "_law_made" "_law_made" (defArgs s__law_made) (defBody s__law_made) (defScope s__law_made) .none kV_law_made dc_law_made pm_law_made an_law_made cd_law_made ct_law_made), sl_law_made⟩)
    (hc_law_made : PySem.W.codeIn K cd_law_made "_law_made" = true)
    (hk_law_made : PySem.W.keepIn K (.ref f_law_made) = true)
    (ha_law_right : PySem.W.nsIn K mainGlobals "_law_right" = some (some (.ref f_law_right)))
    (hl_law_right : K.lookup f_law_right = some ⟨oc_law_right, od_law_right, .func (PySem.W.fnOf "_law_right" "_law_right" (defArgs s__law_right) (defBody s__law_right) (defScope s__law_right) .none kV_law_right dc_law_right pm_law_right an_law_right cd_law_right ct_law_right), sl_law_right⟩)
    (hc_law_right : PySem.W.codeIn K cd_law_right "_law_right" = true)
    (hk_law_right : PySem.W.keepIn K (.ref f_law_right) = true)
    (halaw : PySem.W.nsIn K mainGlobals "law" = some (some (.ref flaw)))
    (hllaw : K.lookup flaw = some ⟨oclaw, odlaw, .func (PySem.W.fnOf "law" "law" (defArgs s_law) (defBody s_law) (defScope s_law) .none kVlaw dclaw pmlaw anlaw cdlaw ctlaw), sllaw⟩)
    (hclaw : PySem.W.codeIn K cdlaw "law" = true)
    (hklaw : PySem.W.keepIn K (.ref flaw) = true)
    (hzint : PySem.W.nsIn K mainGlobals "int" = some none)
    (hzlen : PySem.W.nsIn K mainGlobals "len" = some none)
    (hzabs : PySem.W.nsIn K mainGlobals "abs" = some none)
    (hzbool : PySem.W.nsIn K mainGlobals "bool" = some none)
    (hztuple : PySem.W.nsIn K mainGlobals "tuple" = some none)
    (hzisinstance : PySem.W.nsIn K mainGlobals "isinstance" = some none)
    (hzrange : PySem.W.nsIn K mainGlobals "range" = some none)
    (hzmax : PySem.W.nsIn K mainGlobals "max" = some none)
    (hzmin : PySem.W.nsIn K mainGlobals "min" = some none)
    (hzall : PySem.W.nsIn K mainGlobals "all" = some none)
    (hzrepr : PySem.W.nsIn K mainGlobals "repr" = some none)
    (hzstr : PySem.W.nsIn K mainGlobals "str" = some none)
    (hzany : PySem.W.nsIn K mainGlobals "any" = some none)
    (hzlist : PySem.W.nsIn K mainGlobals "list" = some none)
    (hzzip : PySem.W.nsIn K mainGlobals "zip" = some none)
    (hzenumerate : PySem.W.nsIn K mainGlobals "enumerate" = some none) :
    ∃ fd : FuncData, (∀ (s : Shared) (v : Value), BindsTo s fd ⟨[v], []⟩ [("_law_script", v)]) ∧ ∀ base : Heap, K.In base → base.Ns mainGlobals mg → FnG l.prog w K mg base CX0 11 fa fd P_law (spLaw K) := by
  have e := hfa.symm.trans (PySem.W.mg_of X G halaw)
  cases e
  have T : TxD2 mg := ⟨⟨PySem.W.mg_none_of X G hzint, PySem.W.mg_none_of X G hzlen, PySem.W.mg_none_of X G hzabs, PySem.W.mg_none_of X G hzbool, PySem.W.mg_none_of X G hztuple, PySem.W.mg_none_of X G hzisinstance, PySem.W.mg_none_of X G hzrange, PySem.W.mg_none_of X G hzmax, PySem.W.mg_none_of X G hzmin, PySem.W.mg_none_of X G hzall, PySem.W.mg_none_of X G hzrepr, PySem.W.mg_none_of X G hzstr, PySem.W.mg_none_of X G hzany, PySem.W.mg_none_of X G hzlist, PySem.W.mg_none_of X G hzzip, PySem.W.mg_none_of X G hzenumerate⟩, PySem.W.mg_none_of X G hzdict⟩
  have Fis_integer := fun_mk (st := s_is_integer) hlis_integer hcis_integer hkis_integer
  have bis_integer := Fis_integer.binds (ps := P_is_integer) fun _ _ _ _ _ _ us hl => match us, hl with | [_], _ => rfl
  have Fis_between := fun_mk (st := s_is_between) hlis_between hcis_between hkis_between
  have bis_between := Fis_between.binds (ps := P_is_between) fun _ _ _ _ _ _ us hl => match us, hl with | [_, _, _], _ => rfl
  have Flesser := fun_mk (st := s_lesser) hllesser hclesser hklesser
  have blesser := Flesser.binds (ps := P_lesser) fun _ _ _ _ _ _ us hl => match us, hl with | [_, _], _ => rfl
  have Fgreater := fun_mk (st := s_greater) hlgreater hcgreater hkgreater
  have bgreater := Fgreater.binds (ps := P_greater) fun _ _ _ _ _ _ us hl => match us, hl with | [_, _], _ => rfl
  have Fis_name := fun_mk (st := s_is_name) hlis_name hcis_name hkis_name
  have bis_name := Fis_name.binds (ps := P_is_name) fun _ _ _ _ _ _ us hl => match us, hl with | [_], _ => rfl
  have Fis_tuple_of := fun_mk (st := s_is_tuple_of) hlis_tuple_of hcis_tuple_of hkis_tuple_of
  have bis_tuple_of := Fis_tuple_of.binds (ps := P_is_tuple_of) fun _ _ _ _ _ _ us hl => match us, hl with | [_, _, _], _ => rfl
  have Fis_ascending := fun_mk (st := s_is_ascending) hlis_ascending hcis_ascending hkis_ascending
  have bis_ascending := Fis_ascending.binds (ps := P_is_ascending) fun _ _ _ _ _ _ us hl => match us, hl with | [_], _ => rfl
  have FKind___init__ := fun_mk (st := s_Kind___init__) hlKind___init__ hcKind___init__ hkKind___init__
  have bKind___init__ := FKind___init__.binds (ps := P_Kind___init__) fun _ _ _ _ _ _ us hl => match us, hl with | [_, _, _], _ => rfl
  have FKind___eq__ := fun_mk (st := s_Kind___eq__) hlKind___eq__ hcKind___eq__ hkKind___eq__
  have bKind___eq__ := FKind___eq__.binds (ps := P_Kind___eq__) fun _ _ _ _ _ _ us hl => match us, hl with | [_, _], _ => rfl
  have FKind___le__ := fun_mk (st := s_Kind___le__) hlKind___le__ hcKind___le__ hkKind___le__
  have bKind___le__ := FKind___le__.binds (ps := P_Kind___le__) fun _ _ _ _ _ _ us hl => match us, hl with | [_, _], _ => rfl
  have FKind___lt__ := fun_mk (st := s_Kind___lt__) hlKind___lt__ hcKind___lt__ hkKind___lt__
  have bKind___lt__ := FKind___lt__.binds (ps := P_Kind___lt__) fun _ _ _ _ _ _ us hl => match us, hl with | [_, _], _ => rfl
  have FKind___str__ := fun_mk (st := s_Kind___str__) hlKind___str__ hcKind___str__ hkKind___str__
  have bKind___str__ := FKind___str__.binds (ps := P_Kind___str__) fun _ _ _ _ _ _ us hl => match us, hl with | [_], _ => rfl
  have FWorld___init__ := fun_mk (st := s_World___init__) hlWorld___init__ hcWorld___init__ hkWorld___init__
  have bWorld___init__ := FWorld___init__.binds (ps := P_World___init__) fun _ _ _ _ _ _ us hl => match us, hl with | [_, _, _, _, _], _ => rfl
  have FWorld___eq__ := fun_mk (st := s_World___eq__) hlWorld___eq__ hcWorld___eq__ hkWorld___eq__
  have bWorld___eq__ := FWorld___eq__.binds (ps := P_World___eq__) fun _ _ _ _ _ _ us hl => match us, hl with | [_, _], _ => rfl
  have F_are_kinds := fun_mk (st := s__are_kinds) hl_are_kinds hc_are_kinds hk_are_kinds
  have b_are_kinds := F_are_kinds.binds (ps := P__are_kinds) fun _ _ _ _ _ _ us hl => match us, hl with | [_, _], _ => rfl
  have F_are_columns := fun_mk (st := s__are_columns) hl_are_columns hc_are_columns hk_are_columns
  have b_are_columns := F_are_columns.binds (ps := P__are_columns) fun _ _ _ _ _ _ us hl => match us, hl with | [_], _ => rfl
  have F_are_programs := fun_mk (st := s__are_programs) hl_are_programs hc_are_programs hk_are_programs
  have b_are_programs := F_are_programs.binds (ps := P__are_programs) fun _ _ _ _ _ _ us hl => match us, hl with | [_, _], _ => rfl
  have F_is_program := fun_mk (st := s__is_program) hl_is_program hc_is_program hk_is_program
  have b_is_program := F_is_program.binds (ps := P__is_program) fun _ _ _ _ _ _ us hl => match us, hl with | [_, _], _ => rfl
  have F_is_edition := fun_mk (st := s__is_edition) hl_is_edition hc_is_edition hk_is_edition
  have b_is_edition := F_is_edition.binds (ps := P__is_edition) fun _ _ _ _ _ _ us hl => match us, hl with | [_, _], _ => rfl
  have F_are_rows := fun_mk (st := s__are_rows) hl_are_rows hc_are_rows hk_are_rows
  have b_are_rows := F_are_rows.binds (ps := P__are_rows) fun _ _ _ _ _ _ us hl => match us, hl with | [_, _, _], _ => rfl
  have F_is_read := fun_mk (st := s__is_read) hl_is_read hc_is_read hk_is_read
  have b_is_read := F_is_read.binds (ps := P__is_read) fun _ _ _ _ _ _ us hl => match us, hl with | [_], _ => rfl
  have F_is_write := fun_mk (st := s__is_write) hl_is_write hc_is_write hk_is_write
  have b_is_write := F_is_write.binds (ps := P__is_write) fun _ _ _ _ _ _ us hl => match us, hl with | [_, _], _ => rfl
  have F_is_first_edition := fun_mk (st := s__is_first_edition) hl_is_first_edition hc_is_first_edition hk_is_first_edition
  have b_is_first_edition := F_is_first_edition.binds (ps := P__is_first_edition) fun _ _ _ _ _ _ us hl => match us, hl with | [_], _ => rfl
  have F_many_in_two_events := fun_mk (st := s__many_in_two_events) hl_many_in_two_events hc_many_in_two_events hk_many_in_two_events
  have b_many_in_two_events := F_many_in_two_events.binds (ps := P__many_in_two_events) fun _ _ _ _ _ _ us hl => match us, hl with | [_], _ => rfl
  have F_law_pot := fun_mk (st := s__law_pot) hl_law_pot hc_law_pot hk_law_pot
  have b_law_pot := F_law_pot.binds (ps := P__law_pot) fun _ _ _ _ _ _ us hl => match us, hl with | [_, _], _ => rfl
  have F_law_take := fun_mk (st := s__law_take) hl_law_take hc_law_take hk_law_take
  have b_law_take := F_law_take.binds (ps := P__law_take) fun _ _ _ _ _ _ us hl => match us, hl with | [_, _], _ => rfl
  have F_law_of := fun_mk (st := s__law_of) hl_law_of hc_law_of hk_law_of
  have b_law_of := F_law_of.binds (ps := P__law_of) fun _ _ _ _ _ _ us hl => match us, hl with | [_, _], _ => rfl
  have F_law_names := fun_mk (st := s__law_names) hl_law_names hc_law_names hk_law_names
  have b_law_names := F_law_names.binds (ps := P__law_names) fun _ _ _ _ _ _ us hl => match us, hl with | [_, _], _ => rfl
  have F_law_kinds := fun_mk (st := s__law_kinds) hl_law_kinds hc_law_kinds hk_law_kinds
  have b_law_kinds := F_law_kinds.binds (ps := P__law_kinds) fun _ _ _ _ _ _ us hl => match us, hl with | [_], _ => rfl
  have F_law_reads := fun_mk (st := s__law_reads) hl_law_reads hc_law_reads hk_law_reads
  have b_law_reads := F_law_reads.binds (ps := P__law_reads) fun _ _ _ _ _ _ us hl => match us, hl with | [_, _, _], _ => rfl
  have F_law_writes := fun_mk (st := s__law_writes) hl_law_writes hc_law_writes hk_law_writes
  have b_law_writes := F_law_writes.binds (ps := P__law_writes) fun _ _ _ _ _ _ us hl => match us, hl with | [_, _, _, _, _], _ => rfl
  have F_law_edition := fun_mk (st := s__law_edition) hl_law_edition hc_law_edition hk_law_edition
  have b_law_edition := F_law_edition.binds (ps := P__law_edition) fun _ _ _ _ _ _ us hl => match us, hl with | [_, _, _], _ => rfl
  have F_law_world := fun_mk (st := s__law_world) hl_law_world hc_law_world hk_law_world
  have b_law_world := F_law_world.binds (ps := P__law_world) fun _ _ _ _ _ _ us hl => match us, hl with | [_, _], _ => rfl
  have F_law_ends := fun_mk (st := s__law_ends) hl_law_ends hc_law_ends hk_law_ends
  have b_law_ends := F_law_ends.binds (ps := P__law_ends) fun _ _ _ _ _ _ us hl => match us, hl with | [_], _ => rfl
  have F_law_others := fun_mk (st := s__law_others) hl_law_others hc_law_others hk_law_others
  have b_law_others := F_law_others.binds (ps := P__law_others) fun _ _ _ _ _ _ us hl => match us, hl with | [_], _ => rfl
  have F_law_late := fun_mk (st := s__law_late) hl_law_late hc_law_late hk_law_late
  have b_law_late := F_law_late.binds (ps := P__law_late) fun _ _ _ _ _ _ us hl => match us, hl with | [_], _ => rfl
  have F_law_made := fun_mk (st := s__law_made) hl_law_made hc_law_made hk_law_made
  have b_law_made := F_law_made.binds (ps := P__law_made) fun _ _ _ _ _ _ us hl => match us, hl with | [_], _ => rfl
  have F_law_right := fun_mk (st := s__law_right) hl_law_right hc_law_right hk_law_right
  have b_law_right := F_law_right.binds (ps := P__law_right) fun _ _ _ _ _ _ us hl => match us, hl with | [_], _ => rfl
  have Flaw := fun_mk (st := s_law) hllaw hclaw hklaw
  refine ⟨PySem.W.fnOf "law" "law" (defArgs s_law) (defBody s_law) (defScope s_law) .none kVlaw dclaw pmlaw anlaw cdlaw ctlaw, fun s v => .of_eq rfl, fun base _ _ => ?_⟩
  have GT_SIDES : GTup K mg "SIDES" a_SIDES (["narrow", "wide"] : List Str) := ⟨PySem.W.mg_of X G hu0SIDES, tupW_sq hu1SIDES (by decide)⟩
  have GT_RULES : GTup K mg "RULES" a_RULES (["cut", "empty", "refuse"] : List Str) := ⟨PySem.W.mg_of X G hu0RULES, tupW_sq hu1RULES (by decide)⟩
  have GT_DEEDS : GTup K mg "DEEDS" a_DEEDS (["match", "order", "show"] : List Str) := ⟨PySem.W.mg_of X G hu0DEEDS, tupW_sq hu1DEEDS (by decide)⟩
  have GT_READ_SIDES : GTup K mg "READ_SIDES" a_READ_SIDES (["narrow", "wide", "either"] : List Str) := ⟨PySem.W.mg_of X G hu0READ_SIDES, tupW_sq hu1READ_SIDES (by decide)⟩
  have GT_HOWS : GTup K mg "HOWS" a_HOWS (["narrow", "wide", "both", "narrow first", "wide first"] : List Str) := ⟨PySem.W.mg_of X G hu0HOWS, tupW_sq hu1HOWS (by decide)⟩
  have GT_IN_TWO_EVENTS : GTup K mg "IN_TWO_EVENTS" a_IN_TWO_EVENTS (["narrow first", "wide first"] : List Str) := ⟨PySem.W.mg_of X G hu0IN_TWO_EVENTS, tupW_sq hu1IN_TWO_EVENTS (by decide)⟩
  have n_sorted : mg "sorted" = none := PySem.W.mg_none_of X G hzsorted
  have TN : TxN mg n_MOST_LETTERS n_LEAST_NARROW n_MOST_PACE n_MOST_IN_TWO_EVENTS := ⟨PySem.W.mg_of X G hgnMOST_LETTERS, PySem.W.mg_of X G hgnLEAST_NARROW, PySem.W.mg_of X G hgnMOST_PACE, PySem.W.mg_of X G hgnMOST_IN_TWO_EVENTS⟩
  obtain ⟨κ, κ_World, κ_Kind⟩ : ∃ κ : String → Addr, κ "World" = C_World ∧ κ "Kind" = C_Kind := ⟨fun n => if n = "World" then C_World else if n = "Kind" then C_Kind else C_World, if_pos rfl, (if_neg (by decide)).trans (if_pos rfl)⟩
  subst κ_World κ_Kind
  have CT_World : ClsI K mg ⟨K, κ⟩ "World" "World" ["narrow", "wide", "columns", "programs"] := ⟨⟨⟨hpgWorld, hhdWorld, hpoWorld, hsaWorld⟩, fun f m => by
    simp only [List.mem_cons, List.not_mem_nil, or_false] at m
    rcases m with rfl | rfl | rfl | rfl
    · exact hnWorld_narrow
    · exact hnWorld_wide
    · exact hnWorld_columns
    · exact hnWorld_programs⟩, ⟨⟨hpgWorld, hhdWorld, hpoWorld, hsaWorld⟩, hx1World, heW4, heW5, hx4World, if_pos (beq_self_eq_true _)⟩, PySem.W.mg_of X G haCWorld⟩
  have CT_Kind : ClsI K mg ⟨K, κ⟩ "Kind" "Kind" ["low", "high", "size"] := ⟨⟨⟨hpgKind, hhdKind, hpoKind, hsaKind⟩, fun f m => by
    simp only [List.mem_cons, List.not_mem_nil, or_false] at m
    rcases m with rfl | rfl | rfl
    · exact hnKind_low
    · exact hnKind_high
    · exact hnKind_size⟩, ⟨⟨hpgKind, hhdKind, hpoKind, hsaKind⟩, hx1Kind, heW4, heW5, hx4Kind, if_pos (beq_self_eq_true _)⟩, PySem.W.mg_of X G haCKind⟩
  have EA_World : EqA ⟨K, κ⟩ "World" ["Kind"] := ⟨fun t m => by
    simp only [tysL, List.mem_cons, List.not_mem_nil, or_false] at m
    rcases m with rfl | rfl | rfl | rfl | rfl | rfl | rfl
    · exact heanfWorldNoneType
    · exact heanfWorldbool
    · exact heanfWorldint
    · exact heanfWorldstr
    · exact heanfWorldlist
    · exact heanfWorldtuple
    · exact heanfWorlddict, fun t m => by
    simp only [tysL, List.mem_cons, List.not_mem_nil, or_false] at m
    rcases m with rfl | rfl | rfl | rfl | rfl | rfl | rfl
    · exact heankWorldNoneType
    · exact heankWorldbool
    · exact heankWorldint
    · exact heankWorldstr
    · exact heankWorldlist
    · exact heankWorldtuple
    · exact heankWorlddict, CT_World.i, heansWorld, fun c2 m => by
    simp only [List.mem_cons, List.not_mem_nil, or_false] at m
    rcases m with rfl
    · exact ⟨CT_Kind.i, heacfWorldKind, heackWorldKind⟩, heaneWorld, hx4World⟩
  have gL_is_integer : FnOk l.prog w K mg base CX0 1 fis_integer _ P_is_integer (spD ⟨K, κ⟩ 1 L_is_integer) := ok_is_integer Fis_integer T 
  have cL_is_integer : Cal l.prog w K mg base 1 "is_integer" P_is_integer (spD ⟨K, κ⟩ 1 L_is_integer) := ⟨fis_integer, _, gL_is_integer, bis_integer, PySem.W.mg_of X G hais_integer, hkis_integer⟩
  have gL_is_between : FnOk l.prog w K mg base CX0 2 fis_between _ P_is_between (spD ⟨K, κ⟩ 3 L_is_between) := ok_is_between Fis_between T cL_is_integer
  have cL_is_between : Cal l.prog w K mg base 2 "is_between" P_is_between (spD ⟨K, κ⟩ 3 L_is_between) := ⟨fis_between, _, gL_is_between, bis_between, PySem.W.mg_of X G hais_between, hkis_between⟩
  have gL_lesser : FnOk l.prog w K mg base CX0 1 flesser _ P_lesser (spD ⟨K, κ⟩ 2 L_lesser) := ok_lesser Flesser T 
  have cL_lesser : Cal l.prog w K mg base 1 "lesser" P_lesser (spD ⟨K, κ⟩ 2 L_lesser) := ⟨flesser, _, gL_lesser, blesser, PySem.W.mg_of X G halesser, hklesser⟩
  have gL_greater : FnOk l.prog w K mg base CX0 1 fgreater _ P_greater (spD ⟨K, κ⟩ 2 L_greater) := ok_greater Fgreater T 
  have cL_greater : Cal l.prog w K mg base 1 "greater" P_greater (spD ⟨K, κ⟩ 2 L_greater) := ⟨fgreater, _, gL_greater, bgreater, PySem.W.mg_of X G hagreater, hkgreater⟩
  have gL_is_name : FnOk l.prog w K mg base CX0 1 fis_name _ P_is_name (spD ⟨K, κ⟩ 1 L_is_name) := ok_is_name Fis_name T TN 
  have cL_is_name : Cal l.prog w K mg base 1 "is_name" P_is_name (spD ⟨K, κ⟩ 1 L_is_name) := ⟨fis_name, _, gL_is_name, bis_name, PySem.W.mg_of X G hais_name, hkis_name⟩
  have gL_is_tuple_of : FnOk l.prog w K mg base CX0 1 fis_tuple_of _ P_is_tuple_of (spD ⟨K, κ⟩ 3 L_is_tuple_of) := ok_is_tuple_of Fis_tuple_of T 
  have cL_is_tuple_of : Cal l.prog w K mg base 1 "is_tuple_of" P_is_tuple_of (spD ⟨K, κ⟩ 3 L_is_tuple_of) := ⟨fis_tuple_of, _, gL_is_tuple_of, bis_tuple_of, PySem.W.mg_of X G hais_tuple_of, hkis_tuple_of⟩
  have gL_is_ascending : FnOk l.prog w K mg base CX0 1 fis_ascending _ P_is_ascending (spD ⟨K, κ⟩ 1 L_is_ascending) := ok_is_ascending Fis_ascending T 
  have cL_is_ascending : Cal l.prog w K mg base 1 "is_ascending" P_is_ascending (spD ⟨K, κ⟩ 1 L_is_ascending) := ⟨fis_ascending, _, gL_is_ascending, bis_ascending, PySem.W.mg_of X G hais_ascending, hkis_ascending⟩
  have gL_is_ascendingT : FnOk l.prog w K mg base CX0 1 fis_ascending _ P_is_ascending (spD ⟨K, κ⟩ 1 L_is_ascendingT) := ok_is_ascendingT Fis_ascending T 
  have cL_is_ascendingT : Cal l.prog w K mg base 1 "is_ascending" P_is_ascending (spD ⟨K, κ⟩ 1 L_is_ascendingT) := ⟨fis_ascending, _, gL_is_ascendingT, bis_ascending, PySem.W.mg_of X G hais_ascending, hkis_ascending⟩
  have gL_Kind___init__ : FnOk l.prog w K mg base CX0 2 fKind___init__ _ P_Kind___init__ (spD ⟨K, κ⟩ 3 L_Kind___init__) := ok_Kind___init__ FKind___init__ T cL_is_integer CT_Kind
  have cL_Kind___init__ : MkI l.prog w K mg base ⟨K, κ⟩ 2 "Kind" "Kind" P_Kind___init__ (spD ⟨K, κ⟩ 3 L_Kind___init__) := ⟨fKind___init__, _, ⟨hmkKind, haKind___init__, hiKind___init__, hkcKind⟩, gL_Kind___init__, bKind___init__, CT_Kind.g⟩
  have gL_Kind___le__ : FnOk l.prog w K mg base CX0 1 fKind___le__ _ P_Kind___le__ (spD ⟨K, κ⟩ 2 L_Kind___le__) := ok_Kind___le__ FKind___le__ T CT_Kind
  have cL_Kind___le__ : MeI l.prog w K mg base ⟨K, κ⟩ 1 "Kind" "__le__" P_Kind___le__ (spD ⟨K, κ⟩ 2 L_Kind___le__) := ⟨fKind___le__, _, ⟨haKind___le__, hiKind___le__, hkKind___le__⟩, gL_Kind___le__, bKind___le__⟩
  have gL_Kind___eq__ : FnOk l.prog w K mg base CX0 1 fKind___eq__ _ P_Kind___eq__ (spD ⟨K, κ⟩ 2 L_Kind___eq__) := ok_Kind___eq__ FKind___eq__ T CT_Kind
  have cL_Kind___eq__ : MeI l.prog w K mg base ⟨K, κ⟩ 1 "Kind" "__eq__" P_Kind___eq__ (spD ⟨K, κ⟩ 2 L_Kind___eq__) := ⟨fKind___eq__, _, ⟨haKind___eq__, hiKind___eq__, hkKind___eq__⟩, gL_Kind___eq__, bKind___eq__⟩
  have gL_Kind___lt__ : FnOk l.prog w K mg base CX0 2 fKind___lt__ _ P_Kind___lt__ (spD ⟨K, κ⟩ 2 L_Kind___lt__) := ok_Kind___lt__ FKind___lt__ T CT_Kind cL_Kind___le__ cL_Kind___eq__
  have cL_Kind___lt__ : MeI l.prog w K mg base ⟨K, κ⟩ 2 "Kind" "__lt__" P_Kind___lt__ (spD ⟨K, κ⟩ 2 L_Kind___lt__) := ⟨fKind___lt__, _, ⟨haKind___lt__, hiKind___lt__, hkKind___lt__⟩, gL_Kind___lt__, bKind___lt__⟩
  have gL__are_kinds : FnOk l.prog w K mg base CX0 3 f_are_kinds _ P__are_kinds (spD ⟨K, κ⟩ 2 L__are_kinds) := ok__are_kinds F_are_kinds T TN CT_Kind cL_Kind___lt__
  have cL__are_kinds : Cal l.prog w K mg base 3 "_are_kinds" P__are_kinds (spD ⟨K, κ⟩ 2 L__are_kinds) := ⟨f_are_kinds, _, gL__are_kinds, b_are_kinds, PySem.W.mg_of X G ha_are_kinds, hk_are_kinds⟩
  have gL__are_columns : FnOk l.prog w K mg base CX0 2 f_are_columns _ P__are_columns (spD ⟨K, κ⟩ 1 L__are_columns) := ok__are_columns F_are_columns T cL_is_tuple_of cL_is_name cL_is_ascendingT
  have cL__are_columns : Cal l.prog w K mg base 2 "_are_columns" P__are_columns (spD ⟨K, κ⟩ 1 L__are_columns) := ⟨f_are_columns, _, gL__are_columns, b_are_columns, PySem.W.mg_of X G ha_are_columns, hk_are_columns⟩
  have gL__are_rows : FnOk l.prog w K mg base CX0 2 f_are_rows _ P__are_rows (spD ⟨K, κ⟩ 3 L__are_rows) := ok__are_rows F_are_rows T cL_is_tuple_of cL_is_ascending
  have cL__are_rows : Cal l.prog w K mg base 2 "_are_rows" P__are_rows (spD ⟨K, κ⟩ 3 L__are_rows) := ⟨f_are_rows, _, gL__are_rows, b_are_rows, PySem.W.mg_of X G ha_are_rows, hk_are_rows⟩
  have gL__is_read : FnOk l.prog w K mg base CX0 2 f_is_read _ P__is_read (spD ⟨K, κ⟩ 1 L__is_read) := ok__is_read F_is_read T GT_DEEDS GT_READ_SIDES cL_is_ascendingT
  have cL__is_read : Cal l.prog w K mg base 2 "_is_read" P__is_read (spD ⟨K, κ⟩ 1 L__is_read) := ⟨f_is_read, _, gL__is_read, b_is_read, PySem.W.mg_of X G ha_is_read, hk_is_read⟩
  have gL__is_write : FnOk l.prog w K mg base CX0 3 f_is_write _ P__is_write (spD ⟨K, κ⟩ 2 L__is_write) := ok__is_write F_is_write T GT_RULES GT_HOWS TN cL_is_between
  have cL__is_write : Cal l.prog w K mg base 3 "_is_write" P__is_write (spD ⟨K, κ⟩ 2 L__is_write) := ⟨f_is_write, _, gL__is_write, b_is_write, PySem.W.mg_of X G ha_is_write, hk_is_write⟩
  have gL__is_edition : FnOk l.prog w K mg base CX0 4 f_is_edition _ P__is_edition (spD ⟨K, κ⟩ 2 L__is_edition) := ok__is_edition F_is_edition T GT_SIDES cL_is_tuple_of cL__are_rows cL__is_read cL__is_write
  have cL__is_edition : Cal l.prog w K mg base 4 "_is_edition" P__is_edition (spD ⟨K, κ⟩ 2 L__is_edition) := ⟨f_is_edition, _, gL__is_edition, b_is_edition, PySem.W.mg_of X G ha_is_edition, hk_is_edition⟩
  have gL__is_first_edition : FnOk l.prog w K mg base CX0 1 f_is_first_edition _ P__is_first_edition (spD ⟨K, κ⟩ 1 L__is_first_edition) := ok__is_first_edition F_is_first_edition T 
  have cL__is_first_edition : Cal l.prog w K mg base 1 "_is_first_edition" P__is_first_edition (spD ⟨K, κ⟩ 1 L__is_first_edition) := ⟨f_is_first_edition, _, gL__is_first_edition, b_is_first_edition, PySem.W.mg_of X G ha_is_first_edition, hk_is_first_edition⟩
  have gL__is_program : FnOk l.prog w K mg base CX0 5 f_is_program _ P__is_program (spD ⟨K, κ⟩ 2 L__is_program) := ok__is_program F_is_program T cL_is_tuple_of cL_is_name cL__is_edition cL__is_first_edition
  have cL__is_program : Cal l.prog w K mg base 5 "_is_program" P__is_program (spD ⟨K, κ⟩ 2 L__is_program) := ⟨f_is_program, _, gL__is_program, b_is_program, PySem.W.mg_of X G ha_is_program, hk_is_program⟩
  have gL__many_in_two_events : FnOk l.prog w K mg base CX0 1 f_many_in_two_events _ P__many_in_two_events (spD ⟨K, κ⟩ 1 L__many_in_two_events) := ok__many_in_two_events F_many_in_two_events T GT_IN_TWO_EVENTS 
  have cL__many_in_two_events : Cal l.prog w K mg base 1 "_many_in_two_events" P__many_in_two_events (spD ⟨K, κ⟩ 1 L__many_in_two_events) := ⟨f_many_in_two_events, _, gL__many_in_two_events, b_many_in_two_events, PySem.W.mg_of X G ha_many_in_two_events, hk_many_in_two_events⟩
  have gL__are_programs : FnOk l.prog w K mg base CX0 6 f_are_programs _ P__are_programs (spD ⟨K, κ⟩ 2 L__are_programs) := ok__are_programs F_are_programs T TN cL_is_tuple_of cL__is_program cL_is_ascending cL__many_in_two_events
  have cL__are_programs : Cal l.prog w K mg base 6 "_are_programs" P__are_programs (spD ⟨K, κ⟩ 2 L__are_programs) := ⟨f_are_programs, _, gL__are_programs, b_are_programs, PySem.W.mg_of X G ha_are_programs, hk_are_programs⟩
  have gL_World___init__ : FnOk l.prog w K mg base CX0 7 fWorld___init__ _ P_World___init__ (spD ⟨K, κ⟩ 5 L_World___init__) := ok_World___init__ FWorld___init__ T cL__are_kinds cL__are_columns cL__are_programs CT_World
  have cL_World___init__ : MkI l.prog w K mg base ⟨K, κ⟩ 7 "World" "World" P_World___init__ (spD ⟨K, κ⟩ 5 L_World___init__) := ⟨fWorld___init__, _, ⟨hmkWorld, haWorld___init__, hiWorld___init__, hkcWorld⟩, gL_World___init__, bWorld___init__, CT_World.g⟩
  have gL__law_take : FnOk l.prog w K mg base CX0 1 f_law_take _ P__law_take (spD ⟨K, κ⟩ 2 L__law_take) := ok__law_take F_law_take T 
  have cL__law_take : Cal l.prog w K mg base 1 "_law_take" P__law_take (spD ⟨K, κ⟩ 2 L__law_take) := ⟨f_law_take, _, gL__law_take, b_law_take, PySem.W.mg_of X G ha_law_take, hk_law_take⟩
  have gL__law_of : FnOk l.prog w K mg base CX0 2 f_law_of _ P__law_of (spD ⟨K, κ⟩ 2 L__law_of) := ok__law_of F_law_of T cL__law_take
  have cL__law_of : Cal l.prog w K mg base 2 "_law_of" P__law_of (spD ⟨K, κ⟩ 2 L__law_of) := ⟨f_law_of, _, gL__law_of, b_law_of, PySem.W.mg_of X G ha_law_of, hk_law_of⟩
  have gL_World___eq__ : FnOk l.prog w K mg base CX0 2 fWorld___eq__ _ P_World___eq__ (spD ⟨K, κ⟩ 2 L_World___eq__) := ok_World___eq__ FWorld___eq__ T CT_World EA_World cL_Kind___eq__
  have cL_World___eq__ : MeI l.prog w K mg base ⟨K, κ⟩ 2 "World" "__eq__" P_World___eq__ (spD ⟨K, κ⟩ 2 L_World___eq__) := ⟨fWorld___eq__, _, ⟨haWorld___eq__, hiWorld___eq__, hkWorld___eq__⟩, gL_World___eq__, bWorld___eq__⟩
  have gL_Kind___str__ : FnOk l.prog w K mg base CX0 1 fKind___str__ _ P_Kind___str__ (spD ⟨K, κ⟩ 1 L_Kind___str__) := ok_Kind___str__ FKind___str__ T CT_Kind
  have cL_Kind___str__ : MeI l.prog w K mg base ⟨K, κ⟩ 1 "Kind" "__str__" P_Kind___str__ (spD ⟨K, κ⟩ 1 L_Kind___str__) := ⟨fKind___str__, _, ⟨haKind___str__, hiKind___str__, hkKind___str__⟩, gL_Kind___str__, bKind___str__⟩
  have gL__law_pot : FnOk l.prog w K mg base CX0 1 f_law_pot _ P__law_pot (spD ⟨K, κ⟩ 2 L__law_pot) := ok__law_pot F_law_pot T 
  have cL__law_pot : Cal l.prog w K mg base 1 "_law_pot" P__law_pot (spD ⟨K, κ⟩ 2 L__law_pot) := ⟨f_law_pot, _, gL__law_pot, b_law_pot, PySem.W.mg_of X G ha_law_pot, hk_law_pot⟩
  have gL__law_ofS : FnOk l.prog w K mg base CX0 2 f_law_of _ P__law_of (spD ⟨K, κ⟩ 2 L__law_ofS) := ok__law_ofS F_law_of T cL__law_take
  have cL__law_ofS : Cal l.prog w K mg base 2 "_law_of" P__law_of (spD ⟨K, κ⟩ 2 L__law_ofS) := ⟨f_law_of, _, gL__law_ofS, b_law_of, PySem.W.mg_of X G ha_law_of, hk_law_of⟩
  have gL__law_names : FnOk l.prog w K mg base CX0 3 f_law_names _ P__law_names (spD ⟨K, κ⟩ 2 L__law_names) := ok__law_names F_law_names T n_sorted cL__law_of cL__law_ofS cL__law_take
  have cL__law_names : Cal l.prog w K mg base 3 "_law_names" P__law_names (spD ⟨K, κ⟩ 2 L__law_names) := ⟨f_law_names, _, gL__law_names, b_law_names, PySem.W.mg_of X G ha_law_names, hk_law_names⟩
  have gL__law_kinds : FnOk l.prog w K mg base CX0 3 f_law_kinds _ P__law_kinds (spD ⟨K, κ⟩ 1 L__law_kinds) := ok__law_kinds F_law_kinds T cL__law_of cL__law_take
  have cL__law_kinds : Cal l.prog w K mg base 3 "_law_kinds" P__law_kinds (spD ⟨K, κ⟩ 1 L__law_kinds) := ⟨f_law_kinds, _, gL__law_kinds, b_law_kinds, PySem.W.mg_of X G ha_law_kinds, hk_law_kinds⟩
  have gL__law_reads : FnOk l.prog w K mg base CX0 3 f_law_reads _ P__law_reads (spD ⟨K, κ⟩ 3 L__law_reads) := ok__law_reads F_law_reads T cL__law_take cL__law_of
  have cL__law_reads : Cal l.prog w K mg base 3 "_law_reads" P__law_reads (spD ⟨K, κ⟩ 3 L__law_reads) := ⟨f_law_reads, _, gL__law_reads, b_law_reads, PySem.W.mg_of X G ha_law_reads, hk_law_reads⟩
  have gL__law_writes : FnOk l.prog w K mg base CX0 3 f_law_writes _ P__law_writes (spD ⟨K, κ⟩ 5 L__law_writes) := ok__law_writes F_law_writes T cL__law_of cL__law_take
  have cL__law_writes : Cal l.prog w K mg base 3 "_law_writes" P__law_writes (spD ⟨K, κ⟩ 5 L__law_writes) := ⟨f_law_writes, _, gL__law_writes, b_law_writes, PySem.W.mg_of X G ha_law_writes, hk_law_writes⟩
  have gL__law_edition : FnOk l.prog w K mg base CX0 4 f_law_edition _ P__law_edition (spD ⟨K, κ⟩ 3 L__law_edition) := ok__law_edition F_law_edition T cL__law_take cL__law_reads cL__law_writes
  have cL__law_edition : Cal l.prog w K mg base 4 "_law_edition" P__law_edition (spD ⟨K, κ⟩ 3 L__law_edition) := ⟨f_law_edition, _, gL__law_edition, b_law_edition, PySem.W.mg_of X G ha_law_edition, hk_law_edition⟩
  have gL__law_world : FnOk l.prog w K mg base CX0 9 f_law_world _ P__law_world (spD ⟨K, κ⟩ 2 L__law_world) := ok__law_world F_law_world T cL__law_kinds cL__law_names cL__law_take cL__law_edition cL_World___init__ cL_Kind___init__
  have cL__law_world : Cal l.prog w K mg base 9 "_law_world" P__law_world (spD ⟨K, κ⟩ 2 L__law_world) := ⟨f_law_world, _, gL__law_world, b_law_world, PySem.W.mg_of X G ha_law_world, hk_law_world⟩
  have gL__law_ends : FnOk l.prog w K mg base CX0 1 f_law_ends _ P__law_ends (spD ⟨K, κ⟩ 1 L__law_ends) := ok__law_ends F_law_ends T CT_Kind
  have cL__law_ends : Cal l.prog w K mg base 1 "_law_ends" P__law_ends (spD ⟨K, κ⟩ 1 L__law_ends) := ⟨f_law_ends, _, gL__law_ends, b_law_ends, PySem.W.mg_of X G ha_law_ends, hk_law_ends⟩
  have gL__law_others : FnOk l.prog w K mg base CX0 1 f_law_others _ P__law_others (spD ⟨K, κ⟩ 1 L__law_others) := ok__law_others F_law_others T n_sorted 
  have cL__law_others : Cal l.prog w K mg base 1 "_law_others" P__law_others (spD ⟨K, κ⟩ 1 L__law_others) := ⟨f_law_others, _, gL__law_others, b_law_others, PySem.W.mg_of X G ha_law_others, hk_law_others⟩
  have gL__law_late : FnOk l.prog w K mg base CX0 1 f_law_late _ P__law_late (spD ⟨K, κ⟩ 1 L__law_late) := ok__law_late F_law_late T 
  have cL__law_late : Cal l.prog w K mg base 1 "_law_late" P__law_late (spD ⟨K, κ⟩ 1 L__law_late) := ⟨f_law_late, _, gL__law_late, b_law_late, PySem.W.mg_of X G ha_law_late, hk_law_late⟩
  have gL__law_made : FnOk l.prog w K mg base CX0 9 f_law_made _ P__law_made (spD ⟨K, κ⟩ 1 L__law_made) := ok__law_made F_law_made T cL_World___init__ cL_Kind___init__
  have cL__law_made : Cal l.prog w K mg base 9 "_law_made" P__law_made (spD ⟨K, κ⟩ 1 L__law_made) := ⟨f_law_made, _, gL__law_made, b_law_made, PySem.W.mg_of X G ha_law_made, hk_law_made⟩
  have gL__law_right : FnG l.prog w K mg base CX0 10 f_law_right _ P__law_right (spD ⟨K, κ⟩ 1 L__law_right) := ok__law_right F_law_right T cL__law_world CT_World cL__law_ends cL_World___init__ cL_World___eq__ EA_World cL__law_made cL__law_others cL__law_late cL_Kind___str__
  have cL__law_right : CalG l.prog w K mg base 10 "_law_right" P__law_right (spD ⟨K, κ⟩ 1 L__law_right) := ⟨f_law_right, _, gL__law_right, b_law_right, PySem.W.mg_of X G ha_law_right, hk_law_right⟩
  exact law_end (ok_law Flaw T cL__law_pot cL__law_right)
theorem facts {l : PySem.W.OpenLaw} {w : World} {K : PySem.W.Frag} {h : Heap} {mg : Str → Option Value} {fa : Addr} (X : K.In h) (G : h.Ns mainGlobals mg) (hfa : mg "law" = some (.ref fa)) (c : He.SaysT [] fnl tsl w K ∧ exl K = true) :
    ∃ fd : FuncData, (∀ (s : Shared) (v : Value), BindsTo s fd ⟨[v], []⟩ [("_law_script", v)]) ∧ ∀ base : Heap, K.In base → base.Ns mainGlobals mg → FnG l.prog w K mg base CX0 11 fa fd P_law (spLaw K) := by
  obtain ⟨_, hgnMOST_LETTERS⟩ := numB_ok (ex_25 c.2)
  obtain ⟨_, hgnLEAST_NARROW⟩ := numB_ok (ex_26 c.2)
  obtain ⟨_, hgnMOST_PACE⟩ := numB_ok (ex_27 c.2)
  obtain ⟨_, hgnMOST_IN_TWO_EVENTS⟩ := numB_ok (ex_28 c.2)
  obtain ⟨_, _, _, _, _, _, _, _, _, hlis_integer, hcis_integer, hkis_integer⟩ := rawD (K := K) (x := "is_integer") (qual := "is_integer") (st := s_is_integer) (kws := []) (f := (He.ga K "is_integer")) (c.1.d.def_ 0 (d := dd0) rfl)
  obtain ⟨_, _, _, _, _, _, _, _, _, hlis_between, hcis_between, hkis_between⟩ := rawD (K := K) (x := "is_between") (qual := "is_between") (st := s_is_between) (kws := []) (f := (He.ga K "is_between")) (c.1.d.def_ 1 (d := dd1) rfl)
  obtain ⟨_, _, _, _, _, _, _, _, _, hllesser, hclesser, hklesser⟩ := rawD (K := K) (x := "lesser") (qual := "lesser") (st := s_lesser) (kws := []) (f := (He.ga K "lesser")) (c.1.d.def_ 2 (d := dd2) rfl)
  obtain ⟨_, _, _, _, _, _, _, _, _, hlgreater, hcgreater, hkgreater⟩ := rawD (K := K) (x := "greater") (qual := "greater") (st := s_greater) (kws := []) (f := (He.ga K "greater")) (c.1.d.def_ 3 (d := dd3) rfl)
  obtain ⟨_, _, _, _, _, _, _, _, _, hlis_name, hcis_name, hkis_name⟩ := rawD (K := K) (x := "is_name") (qual := "is_name") (st := s_is_name) (kws := []) (f := (He.ga K "is_name")) (c.1.d.def_ 4 (d := dd4) rfl)
  obtain ⟨_, _, _, _, _, _, _, _, _, hlis_tuple_of, hcis_tuple_of, hkis_tuple_of⟩ := rawD (K := K) (x := "is_tuple_of") (qual := "is_tuple_of") (st := s_is_tuple_of) (kws := []) (f := (He.ga K "is_tuple_of")) (c.1.d.def_ 5 (d := dd5) rfl)
  obtain ⟨_, _, _, _, _, _, _, _, _, hlis_ascending, hcis_ascending, hkis_ascending⟩ := rawD (K := K) (x := "is_ascending") (qual := "is_ascending") (st := s_is_ascending) (kws := []) (f := (He.ga K "is_ascending")) (c.1.d.def_ 6 (d := dd6) rfl)
  obtain ⟨_, _, _, _, _, _, _, _, _, hlKind___init__, hcKind___init__, hkKind___init__⟩ := rawD (K := K) (x := "__init__") (qual := "Kind.__init__") (st := s_Kind___init__) (kws := []) (f := (He.ma K (He.ga K "Kind") "__init__")) (c.1.d.def_ 7 (d := dd7) rfl)
  obtain ⟨_, _, _, _, _, _, _, _, _, hlKind___eq__, hcKind___eq__, hkKind___eq__⟩ := rawD (K := K) (x := "__eq__") (qual := "Kind.__eq__") (st := s_Kind___eq__) (kws := []) (f := (He.ma K (He.ga K "Kind") "__eq__")) (c.1.d.def_ 8 (d := dd8) rfl)
  obtain ⟨_, _, _, _, _, _, _, _, _, hlKind___le__, hcKind___le__, hkKind___le__⟩ := rawD (K := K) (x := "__le__") (qual := "Kind.__le__") (st := s_Kind___le__) (kws := []) (f := (He.ma K (He.ga K "Kind") "__le__")) (c.1.d.def_ 9 (d := dd9) rfl)
  obtain ⟨_, _, _, _, _, _, _, _, _, hlKind___lt__, hcKind___lt__, hkKind___lt__⟩ := rawD (K := K) (x := "__lt__") (qual := "Kind.__lt__") (st := s_Kind___lt__) (kws := []) (f := (He.ma K (He.ga K "Kind") "__lt__")) (c.1.d.def_ 10 (d := dd10) rfl)
  obtain ⟨_, _, _, _, _, _, _, _, _, hlKind___str__, hcKind___str__, hkKind___str__⟩ := rawD (K := K) (x := "__str__") (qual := "Kind.__str__") (st := s_Kind___str__) (kws := []) (f := (He.ma K (He.ga K "Kind") "__str__")) (c.1.d.def_ 11 (d := dd11) rfl)
  obtain ⟨_, _, _, _, _, _, _, _, _, hlWorld___init__, hcWorld___init__, hkWorld___init__⟩ := rawD (K := K) (x := "__init__") (qual := "World.__init__") (st := s_World___init__) (kws := []) (f := (He.ma K (He.ga K "World") "__init__")) (c.1.d.def_ 12 (d := dd12) rfl)
  obtain ⟨_, _, _, _, _, _, _, _, _, hlWorld___eq__, hcWorld___eq__, hkWorld___eq__⟩ := rawD (K := K) (x := "__eq__") (qual := "World.__eq__") (st := s_World___eq__) (kws := []) (f := (He.ma K (He.ga K "World") "__eq__")) (c.1.d.def_ 13 (d := dd13) rfl)
  obtain ⟨_, _, _, _, _, _, _, _, _, hl_are_kinds, hc_are_kinds, hk_are_kinds⟩ := rawD (K := K) (x := "_are_kinds") (qual := "_are_kinds") (st := s__are_kinds) (kws := []) (f := (He.ga K "_are_kinds")) (c.1.d.def_ 14 (d := dd14) rfl)
  obtain ⟨_, _, _, _, _, _, _, _, _, hl_are_columns, hc_are_columns, hk_are_columns⟩ := rawD (K := K) (x := "_are_columns") (qual := "_are_columns") (st := s__are_columns) (kws := []) (f := (He.ga K "_are_columns")) (c.1.d.def_ 15 (d := dd15) rfl)
  obtain ⟨_, _, _, _, _, _, _, _, _, hl_are_programs, hc_are_programs, hk_are_programs⟩ := rawD (K := K) (x := "_are_programs") (qual := "_are_programs") (st := s__are_programs) (kws := []) (f := (He.ga K "_are_programs")) (c.1.d.def_ 16 (d := dd16) rfl)
  obtain ⟨_, _, _, _, _, _, _, _, _, hl_is_program, hc_is_program, hk_is_program⟩ := rawD (K := K) (x := "_is_program") (qual := "_is_program") (st := s__is_program) (kws := []) (f := (He.ga K "_is_program")) (c.1.d.def_ 17 (d := dd17) rfl)
  obtain ⟨_, _, _, _, _, _, _, _, _, hl_is_edition, hc_is_edition, hk_is_edition⟩ := rawD (K := K) (x := "_is_edition") (qual := "_is_edition") (st := s__is_edition) (kws := []) (f := (He.ga K "_is_edition")) (c.1.d.def_ 18 (d := dd18) rfl)
  obtain ⟨_, _, _, _, _, _, _, _, _, hl_are_rows, hc_are_rows, hk_are_rows⟩ := rawD (K := K) (x := "_are_rows") (qual := "_are_rows") (st := s__are_rows) (kws := []) (f := (He.ga K "_are_rows")) (c.1.d.def_ 19 (d := dd19) rfl)
  obtain ⟨_, _, _, _, _, _, _, _, _, hl_is_read, hc_is_read, hk_is_read⟩ := rawD (K := K) (x := "_is_read") (qual := "_is_read") (st := s__is_read) (kws := []) (f := (He.ga K "_is_read")) (c.1.d.def_ 20 (d := dd20) rfl)
  obtain ⟨_, _, _, _, _, _, _, _, _, hl_is_write, hc_is_write, hk_is_write⟩ := rawD (K := K) (x := "_is_write") (qual := "_is_write") (st := s__is_write) (kws := []) (f := (He.ga K "_is_write")) (c.1.d.def_ 21 (d := dd21) rfl)
  obtain ⟨_, _, _, _, _, _, _, _, _, hl_is_first_edition, hc_is_first_edition, hk_is_first_edition⟩ := rawD (K := K) (x := "_is_first_edition") (qual := "_is_first_edition") (st := s__is_first_edition) (kws := []) (f := (He.ga K "_is_first_edition")) (c.1.d.def_ 22 (d := dd22) rfl)
  obtain ⟨_, _, _, _, _, _, _, _, _, hl_many_in_two_events, hc_many_in_two_events, hk_many_in_two_events⟩ := rawD (K := K) (x := "_many_in_two_events") (qual := "_many_in_two_events") (st := s__many_in_two_events) (kws := []) (f := (He.ga K "_many_in_two_events")) (c.1.d.def_ 23 (d := dd23) rfl)
  obtain ⟨_, _, _, _, _, _, _, _, _, hl_law_pot, hc_law_pot, hk_law_pot⟩ := rawD (K := K) (x := "_law_pot") (qual := "_law_pot") (st := s__law_pot) (kws := []) (f := (He.ga K "_law_pot")) (c.1.d.def_ 24 (d := dd24) rfl)
  obtain ⟨_, _, _, _, _, _, _, _, _, hl_law_take, hc_law_take, hk_law_take⟩ := rawD (K := K) (x := "_law_take") (qual := "_law_take") (st := s__law_take) (kws := []) (f := (He.ga K "_law_take")) (c.1.d.def_ 25 (d := dd25) rfl)
  obtain ⟨_, _, _, _, _, _, _, _, _, hl_law_of, hc_law_of, hk_law_of⟩ := rawD (K := K) (x := "_law_of") (qual := "_law_of") (st := s__law_of) (kws := []) (f := (He.ga K "_law_of")) (c.1.d.def_ 26 (d := dd26) rfl)
  obtain ⟨_, _, _, _, _, _, _, _, _, hl_law_names, hc_law_names, hk_law_names⟩ := rawD (K := K) (x := "_law_names") (qual := "_law_names") (st := s__law_names) (kws := []) (f := (He.ga K "_law_names")) (c.1.d.def_ 27 (d := dd27) rfl)
  obtain ⟨_, _, _, _, _, _, _, _, _, hl_law_kinds, hc_law_kinds, hk_law_kinds⟩ := rawD (K := K) (x := "_law_kinds") (qual := "_law_kinds") (st := s__law_kinds) (kws := []) (f := (He.ga K "_law_kinds")) (c.1.d.def_ 28 (d := dd28) rfl)
  obtain ⟨_, _, _, _, _, _, _, _, _, hl_law_reads, hc_law_reads, hk_law_reads⟩ := rawD (K := K) (x := "_law_reads") (qual := "_law_reads") (st := s__law_reads) (kws := []) (f := (He.ga K "_law_reads")) (c.1.d.def_ 29 (d := dd29) rfl)
  obtain ⟨_, _, _, _, _, _, _, _, _, hl_law_writes, hc_law_writes, hk_law_writes⟩ := rawD (K := K) (x := "_law_writes") (qual := "_law_writes") (st := s__law_writes) (kws := []) (f := (He.ga K "_law_writes")) (c.1.d.def_ 30 (d := dd30) rfl)
  obtain ⟨_, _, _, _, _, _, _, _, _, hl_law_edition, hc_law_edition, hk_law_edition⟩ := rawD (K := K) (x := "_law_edition") (qual := "_law_edition") (st := s__law_edition) (kws := []) (f := (He.ga K "_law_edition")) (c.1.d.def_ 31 (d := dd31) rfl)
  obtain ⟨_, _, _, _, _, _, _, _, _, hl_law_world, hc_law_world, hk_law_world⟩ := rawD (K := K) (x := "_law_world") (qual := "_law_world") (st := s__law_world) (kws := []) (f := (He.ga K "_law_world")) (c.1.d.def_ 32 (d := dd32) rfl)
  obtain ⟨_, _, _, _, _, _, _, _, _, hl_law_ends, hc_law_ends, hk_law_ends⟩ := rawD (K := K) (x := "_law_ends") (qual := "_law_ends") (st := s__law_ends) (kws := []) (f := (He.ga K "_law_ends")) (c.1.d.def_ 33 (d := dd33) rfl)
  obtain ⟨_, _, _, _, _, _, _, _, _, hl_law_others, hc_law_others, hk_law_others⟩ := rawD (K := K) (x := "_law_others") (qual := "_law_others") (st := s__law_others) (kws := []) (f := (He.ga K "_law_others")) (c.1.d.def_ 34 (d := dd34) rfl)
  obtain ⟨_, _, _, _, _, _, _, _, _, hl_law_late, hc_law_late, hk_law_late⟩ := rawD (K := K) (x := "_law_late") (qual := "_law_late") (st := s__law_late) (kws := []) (f := (He.ga K "_law_late")) (c.1.d.def_ 35 (d := dd35) rfl)
  obtain ⟨_, _, _, _, _, _, _, _, _, hl_law_made, hc_law_made, hk_law_made⟩ := rawD (K := K) (x := "_law_made") (qual := "_law_made") (st := s__law_made) (kws := []) (f := (He.ga K "_law_made")) (c.1.d.def_ 36 (d := dd36) rfl)
  obtain ⟨_, _, _, _, _, _, _, _, _, hl_law_right, hc_law_right, hk_law_right⟩ := rawD (K := K) (x := "_law_right") (qual := "_law_right") (st := s__law_right) (kws := []) (f := (He.ga K "_law_right")) (c.1.d.def_ 37 (d := dd37) rfl)
  obtain ⟨_, _, _, _, _, _, _, _, _, hllaw, hclaw, hklaw⟩ := rawD (K := K) (x := "law") (qual := "law") (st := s_law) (kws := []) (f := (He.ga K "law")) (c.1.d.def_ 38 (d := dd38) rfl)
  exact all_mk (l := l) (w := w) X G hfa (of_decide_eq_true (ex_0 c.2)) (ex_1 c.2) (ex_2 c.2) (ex_3 c.2) (of_decide_eq_true (ex_4 c.2)) (ex_5 c.2) (ex_6 c.2) (of_decide_eq_true (ex_7 c.2)) (of_decide_eq_true (ex_8 c.2)) (of_decide_eq_true (ex_9 c.2)) (of_decide_eq_true (ex_10 c.2)) (of_decide_eq_true (ex_11 c.2)) (of_decide_eq_true (ex_12 c.2)) (of_decide_eq_true (ex_13 c.2)) (ex_14 c.2) (ex_15 c.2) (ex_16 c.2) (of_decide_eq_true (ex_17 c.2)) (ex_18 c.2) (ex_19 c.2) (of_decide_eq_true (ex_20 c.2)) (of_decide_eq_true (ex_21 c.2)) (of_decide_eq_true (ex_22 c.2)) (of_decide_eq_true (ex_23 c.2)) (of_decide_eq_true (ex_24 c.2)) hgnMOST_LETTERS hgnLEAST_NARROW hgnMOST_PACE hgnMOST_IN_TWO_EVENTS (of_decide_eq_true (ex_29 c.2)) (of_decide_eq_true (ex_30 c.2)) (of_decide_eq_true (ex_31 c.2)) (of_decide_eq_true (ex_32 c.2)) (of_decide_eq_true (ex_33 c.2)) (of_decide_eq_true (ex_34 c.2)) (of_decide_eq_true (ex_35 c.2)) (of_decide_eq_true (ex_36 c.2)) (of_decide_eq_true (ex_37 c.2)) (of_decide_eq_true (ex_38 c.2)) (of_decide_eq_true (ex_39 c.2)) (of_decide_eq_true (ex_40 c.2)) (of_decide_eq_true (ex_41 c.2)) (of_decide_eq_true (ex_42 c.2)) (of_decide_eq_true (ex_43 c.2)) (of_decide_eq_true (ex_44 c.2)) (ex_45 c.2) (ex_46 c.2) (ex_47 c.2) (ex_48 c.2) (ex_49 c.2) (ex_50 c.2) (ex_51 c.2) (of_decide_eq_true (ex_52 c.2)) (of_decide_eq_true (ex_53 c.2)) (of_decide_eq_true (ex_54 c.2)) (of_decide_eq_true (ex_55 c.2)) (of_decide_eq_true (ex_56 c.2)) (of_decide_eq_true (ex_57 c.2)) (of_decide_eq_true (ex_58 c.2)) (ex_59 c.2) (of_decide_eq_true (ex_60 c.2)) (ex_61 c.2) (of_decide_eq_true (ex_62 c.2)) (of_decide_eq_true (ex_63 c.2)) hlis_integer hcis_integer hkis_integer (of_decide_eq_true (ex_64 c.2)) hlis_between hcis_between hkis_between (of_decide_eq_true (ex_65 c.2)) hllesser hclesser hklesser (of_decide_eq_true (ex_66 c.2)) hlgreater hcgreater hkgreater (of_decide_eq_true (ex_67 c.2)) hlis_name hcis_name hkis_name (of_decide_eq_true (ex_68 c.2)) hlis_tuple_of hcis_tuple_of hkis_tuple_of (of_decide_eq_true (ex_69 c.2)) hlis_ascending hcis_ascending hkis_ascending (of_decide_eq_true (ex_70 c.2)) (ex_71 c.2) hlKind___init__ hcKind___init__ hkKind___init__ (of_decide_eq_true (ex_72 c.2)) (ex_73 c.2) hlKind___eq__ hcKind___eq__ hkKind___eq__ (of_decide_eq_true (ex_74 c.2)) (ex_75 c.2) hlKind___le__ hcKind___le__ hkKind___le__ (of_decide_eq_true (ex_76 c.2)) (ex_77 c.2) hlKind___lt__ hcKind___lt__ hkKind___lt__ (of_decide_eq_true (ex_78 c.2)) (ex_79 c.2) hlKind___str__ hcKind___str__ hkKind___str__ (of_decide_eq_true (ex_80 c.2)) (ex_81 c.2) hlWorld___init__ hcWorld___init__ hkWorld___init__ (of_decide_eq_true (ex_82 c.2)) (ex_83 c.2) hlWorld___eq__ hcWorld___eq__ hkWorld___eq__ (of_decide_eq_true (ex_84 c.2)) hl_are_kinds hc_are_kinds hk_are_kinds (of_decide_eq_true (ex_85 c.2)) hl_are_columns hc_are_columns hk_are_columns (of_decide_eq_true (ex_86 c.2)) hl_are_programs hc_are_programs hk_are_programs (of_decide_eq_true (ex_87 c.2)) hl_is_program hc_is_program hk_is_program (of_decide_eq_true (ex_88 c.2)) hl_is_edition hc_is_edition hk_is_edition (of_decide_eq_true (ex_89 c.2)) hl_are_rows hc_are_rows hk_are_rows (of_decide_eq_true (ex_90 c.2)) hl_is_read hc_is_read hk_is_read (of_decide_eq_true (ex_91 c.2)) hl_is_write hc_is_write hk_is_write (of_decide_eq_true (ex_92 c.2)) hl_is_first_edition hc_is_first_edition hk_is_first_edition (of_decide_eq_true (ex_93 c.2)) hl_many_in_two_events hc_many_in_two_events hk_many_in_two_events (of_decide_eq_true (ex_94 c.2)) hl_law_pot hc_law_pot hk_law_pot (of_decide_eq_true (ex_95 c.2)) hl_law_take hc_law_take hk_law_take (of_decide_eq_true (ex_96 c.2)) hl_law_of hc_law_of hk_law_of (of_decide_eq_true (ex_97 c.2)) hl_law_names hc_law_names hk_law_names (of_decide_eq_true (ex_98 c.2)) hl_law_kinds hc_law_kinds hk_law_kinds (of_decide_eq_true (ex_99 c.2)) hl_law_reads hc_law_reads hk_law_reads (of_decide_eq_true (ex_100 c.2)) hl_law_writes hc_law_writes hk_law_writes (of_decide_eq_true (ex_101 c.2)) hl_law_edition hc_law_edition hk_law_edition (of_decide_eq_true (ex_102 c.2)) hl_law_world hc_law_world hk_law_world (of_decide_eq_true (ex_103 c.2)) hl_law_ends hc_law_ends hk_law_ends (of_decide_eq_true (ex_104 c.2)) hl_law_others hc_law_others hk_law_others (of_decide_eq_true (ex_105 c.2)) hl_law_late hc_law_late hk_law_late (of_decide_eq_true (ex_106 c.2)) hl_law_made hc_law_made hk_law_made (of_decide_eq_true (ex_107 c.2)) hl_law_right hc_law_right hk_law_right (of_decide_eq_true (ex_108 c.2)) hllaw hclaw hklaw (of_decide_eq_true (ex_109 c.2)) (of_decide_eq_true (ex_110 c.2)) (of_decide_eq_true (ex_111 c.2)) (of_decide_eq_true (ex_112 c.2)) (of_decide_eq_true (ex_113 c.2)) (of_decide_eq_true (ex_114 c.2)) (of_decide_eq_true (ex_115 c.2)) (of_decide_eq_true (ex_116 c.2)) (of_decide_eq_true (ex_117 c.2)) (of_decide_eq_true (ex_118 c.2)) (of_decide_eq_true (ex_119 c.2)) (of_decide_eq_true (ex_120 c.2)) (of_decide_eq_true (ex_121 c.2)) (of_decide_eq_true (ex_122 c.2)) (of_decide_eq_true (ex_123 c.2)) (of_decide_eq_true (ex_124 c.2))
end Zd
open PySem PySem.W PySem.Calls PyProof.Rows in
set_option maxRecDepth 100000 in
set_option maxHeartbeats 0 in
theorem PySem.Challenge.cw_widerkeys_k10_worlds_told_and_compared_holds : PySem.Challenge.rw_widerkeys_k10_worlds_told_and_compared.Holds := by
  w_on; o_law
  refine HandSHeadRun.head_any (r := OpenLaw.row PySem.Challenge.rw_widerkeys_k10_worlds_told_and_compared) (q := view (OpenLaw.row PySem.Challenge.rw_widerkeys_k10_worlds_told_and_compared).prog [60]) (H := Zd.hk) (ob := Zd.ob) (M := 12000) (loose := Zd.los) (d := HandSHeadRun.topDef (OpenLaw.row PySem.Challenge.rw_widerkeys_k10_worlds_told_and_compared).prog 60) (kwd := []) Zd.ob_eq
    (by kernel_rfl) (fun s => by kernel_rfl) Zd.run (by kernel_rfl) (by kernel_rfl) (by kernel_rfl) (by rfl) (by first | assumption | decide +kernel) (by decide +kernel) ⟨rfl, rfl, rfl, rfl, rfl, by decide +kernel⟩ ?hw ?hc
  case hw => w_witness2
  case hc =>
    refine Zd.walkGE (l := PySem.Challenge.rw_widerkeys_k10_worlds_told_and_compared) (n := 63) (sp := Zd.spLaw) (x := "_law_script") (k := 11) rfl (by decide) (by kernel_rfl) ⟨rfl, by decide, by decide⟩ ?F (fun K H a ns hl hS => ⟨a, ns, rfl, hS, hl, fun _ => rfl⟩)
    intro w mg fa h Y G hmg0
    obtain ⟨K, KX, c⟩ := Y
    have hmg : mg ("law" : PySem.Str) = some (.ref fa) := by
      have e : (HandSHeadRun.topDef (OpenLaw.row PySem.Challenge.rw_widerkeys_k10_worlds_told_and_compared).prog 60).name = ("law" : PySem.Str) := by kernel_rfl
      rw [← e]
      exact hmg0
    obtain ⟨fd, hb, hF⟩ := Zd.facts (l := PySem.Challenge.rw_widerkeys_k10_worlds_told_and_compared) (w := w) KX G hmg c
    exact ⟨K, fd, KX, hb, hF⟩
