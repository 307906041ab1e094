import PyProof.Rows.All
import Wide.All
import OpenK.AllK
import Wide.FinOn
import PyProof.ReprRoads
import PyProof.ReprLen
import PyProof.FitsInt
import Flt.Len
import HandS.ForMost
import HandS.Wide
import HandS.IsInst
import HandS.ForExc
import HandS.ExcField
import HandS.ExcInit
import HandS.Dict
import HandS.More
import HandS.SlotsOwn
import PyProof.InstNe
import KE.KExcIs
import HandS.ExcIs
import HandS.FStr
import HandS.IsInst
import HandS.Codes
import KE.KCallOwn
import PyProof.StrBlock2
import HandS.StrMore
import HandS.Text
import HandS.Zip
import HandS.TupAny
import HandS.TryOnly
import KE.DatumMoreOrd
import HandS.Deep
import HandS.TupLe
import PySem.Challenge.RW_widerkeys_k36_marks_within_marks
set_option Elab.async false
set_option linter.all false
set_option maxRecDepth 100000
set_option maxHeartbeats 4000000

namespace Zg
open PySem PySem.Spec PyProof.Rows L2

/-! ### powers -/
def CPowZ (i j : Int) : Prop := 0 ≤ j ∧ (Builtin.Int.intBits i : Int) * j ≤ 2 ^ 27
theorem op_powZ {X : Cx} : OpR X (binaryOp .Pow) (rI CPowZ fun i j => .int (i ^ j.toNat)) :=
  opI fun _ _ _ _ _ _ _ hc q => pow_int hc.1 hc.2 q

/-! ### no repr runs around -/
/-- no repr runs around -/
def Calm (A : Around) : Prop := A.guards = some []
theorem Calm.deeper {A : Around} {env : Env} (h : Calm A) : Calm (A.deeper env) := h

/-- repr(x), x data at any depth -/
def rReprD (K : PySem.W.Frag) : List V → Hp → VK → Prop := fun xs H Q =>
  ∃ (x : V) (d : PyData), xs = [x] ∧ Dp K H x d ∧ d.showable = true ∧ d.hasDict = false ∧
    d.depth ≤ 64 ∧ d.shown.length ≤ sizeLine ∧ (∀ i, x = .int i → i.natAbs.log2 < 1920) ∧ Q (.str d.shown) H
theorem call_reprD {X : Cx} (hg : Calm X.A) (hu : X.A.units + 70 < cLine) : CallR X (.builtin "repr") (rReprD X.K) := by
  intro pins s σ H xs us Q I r h
  obtain ⟨x, d, rfl, hd, hs, hn, hdep, hsz, hi, q⟩ := h
  obtain ⟨u, rfl, rx⟩ := vals1 r
  obtain ⟨as, rd⟩ := Dp.reads I d x u hd rx
  have nod : d.hasDict = true → sysModules ∉ as := fun z => by rw [hn] at z; cases z
  cases hd with
  | non =>
    cases rx
    exact PySem.P.repr_of_none ⟨.str _, H, I.tok _, ⟨_, rfl⟩, q⟩
  | bl b =>
    cases rx
    refine PySem.P.repr_of_bool ⟨.str _, H, I.tok _, ⟨_, rfl⟩, ?_⟩
    cases b <;> exact q
  | int i =>
    obtain ⟨t, rfl⟩ := rx
    exact PySem.P.repr_of_int (hi i rfl) ⟨.str _, H, I.tok _, ⟨_, rfl⟩, q⟩
  | str z =>
    obtain ⟨t, rfl⟩ := rx
    exact PySem.P.repr_of_str ⟨.str _, H, I.tok _, ⟨_, rfl⟩, q⟩ hsz
  | lst h1 h2 =>
    cases rx
    refine repr_of_reads' rd hs nod hg (by omega) (fun _ _ e => e) (fun h' u tk hk => ?_) hsz
    exact ⟨.str _, H, I.kept (t' := tk) hk, ⟨_, rfl⟩, q⟩
  | tup h1 h2 =>
    cases rx
    refine repr_of_reads' rd hs nod hg (by omega) (fun _ _ e => e) (fun h' u tk hk => ?_) hsz
    exact ⟨.str _, H, I.kept (t' := tk) hk, ⟨_, rfl⟩, q⟩

/-! ### defs that are called where no repr runs -/
section
variable {P : Program} {w : World} {K : PySem.W.Frag} {mg : Str → Option Value} {base : Heap} {CX : CXT} {k : Nat} {f : Addr} {fd : FuncData} {ps : List Str} {sp : Sp}
/-- a def keeps its promise wherever it is called with no repr around -/
structure FnG (P : Program) (w : World) (K : PySem.W.Frag) (mg : Str → Option Value) (base : Heap) (CX : CXT)
    (k : Nat) (f : Addr) (fd : FuncData) (ps : List Str) (sp : Sp) : Prop where
  many : ∀ vs H Q E, sp vs H Q E → vs.length = ps.length
  goes : ∀ (A : Around), Calm A → ∀ (fr : List Env) (s : Shared) (H : Hp) (args : Args) (us : List Value) (vs : List V) (Q : VK) (E : XK),
    Room k A → Env0 P w K mg base A fr s H → BindsTo s fd args (ps.zip us) → Vals vs us → sp vs H Q E →
      codeAny (model P w) A (.call (.ref f) args) (CR CX fr P w H s Q E) s
theorem FnG.of (F : FnOk P w K mg base CX k f fd ps sp) : FnG P w K mg base CX k f fd ps sp :=
  ⟨F.len, fun A _ fr s H args us vs Q E r e b v h => F.run A fr s H args us vs Q E r e b v h⟩
theorem FnG.up {j : Nat} (F : FnG P w K mg base CX j f fd ps sp) (h : j ≤ k) : FnG P w K mg base CX k f fd ps sp :=
  ⟨F.many, fun A c fr s H args us vs Q E r => F.goes A c fr s H args us vs Q E (r.mono h)⟩

/-- a def of the text, by its body, with no repr around -/
theorem Fun_okG {x qual : Str} {st : Stmt} {N : List Str} (F : Fun K x qual st f fd) (S : FnScope N ps (defScope st)) (len : ∀ vs H Q E, sp vs H Q E → vs.length = ps.length)
    (hbody : ∀ (cd : Value) (A : Around) (fr : List Env) (s : Shared) (H : Hp) (vs : List V) (Q : VK) (E : XK), Calm A →
      Room k (A.deeper (envOfC qual (defScope st) s.heap.objs.size f cd)) → sp vs H Q E →
        ∃ t, PSs (cxOf CX P w K mg base N qual (defScope st) f cd A fr s H E).nox (defBody st) t ∧ t { nx := fun _ H' => Q .non H', rt := Q } (start N vs) H) :
    FnG P w K mg base CX (k + 1) f fd ps sp := by
  obtain ⟨oc, od, kw, doc, pm, an, cd, ct, osl, rfl, at_f, hcd⟩ := F.ex
  constructor
  · exact len
  intro A calm fr s H args us vs Q E room e0 binds rel hsp
  have hlen := len _ _ _ _ hsp
  have stays : ∀ b o, base.get? b = some o → s.heap.get? b = some o := fun b o e => (e0.bs b o e).1
  refine codeAny_call_function room.depth (e0.mod.kin.keeps stays _ _ at_f) rfl S.co S.gen rfl (PySem.W.codeRec_of (e0.mod.kin.keeps stays) hcd) (binds _ _ _ _ ?_)
  refine wpAny_newFunctionEnv_cells S.kind (fun ⟨n, v⟩ hy => ?_) fun env he s1 inC => ?_
  · cases S.par n (List.of_mem_zip hy).1 with
    | inl z => exact .inl z
    | inr z => exact .inr ⟨z, PySem.W.cellsFrom_some _ _ _ (.inl z)⟩
  subst he
  refine ⟨(e0.mod.nolimit.keeps stays).keeps inC.toInCall.keep, codeAny_func ?_⟩
  obtain ⟨t, ht, hq⟩ := hbody cd A fr s H vs Q E calm (room.deeper _) hsp
  refine wpAny_mono (ht.nox.run [] s1 (start N vs) H _ (inv_start (CX := CX) S room.hd e0 hlen rel inC) hq) (fun fl s' z => ?_) fun _ _ z => z
  match fl, z with
  | .ret _, ⟨v, _, H', J, rv, q⟩ => exact ⟨v, H', J.os, J.bare, J.base, J.hok, rv, q⟩
  | .next, ⟨_, H', J, q⟩ => exact ⟨.non, H', J.os, J.bare, J.base, J.hok, rfl, q⟩
  | .brk, ⟨_, _, _, q⟩ => exact q.elim
  | .cont, ⟨_, _, _, q⟩ => exact q.elim
end

section
variable {X : Cx} {CX : CXT} {k : Nat} {f : Addr} {fd : FuncData} {ps : List Str} {sp : Sp} {E : XK} {x : Str} {p pos : Pos} {e : Expr} {es : List Expr} {t : TA}
/-- f(e, ..) where no repr runs -/
theorem pe_callG (c : Calm X.A) (F : FnG X.prog X.w X.K X.mg X.base CX k f fd ps sp) (hr : Room k X.A) (hg : Gl X x) (hm : X.mg x = some (.ref f)) (hk : PySem.W.keepIn X.K (.ref f) = true)
    (hb : Binds X.K fd ps []) (hx : Passes CX X E) (ha : PA X (e :: es) t) (hdb : (x == ("__debug__" : Str)) = false := by decide)
    (he : starEach (e :: es) X.env = (false, eval e X.env) :: starEach es X.env := by rfl) (hpl : (backTo pos (starEach es X.env)).any (·.1) = false := by rfl) :
    PE X (.Call (.Name x p) (e :: es) [] pos) (tCall sp [] E t) := by
  constructor
  intro pins s σ H Q I h
  refine wpAny_Call_Name_kw (ld_glob I hg hm (PySem.W.callWith_K (h₀ := X.base) I.ok.mod.kin hk (thn (ha.run pos pins s σ H _ I h) fun us s1 z => ?_) he hpl) hdb)
  obtain ⟨vs, H1, J, rel, q⟩ := z
  have q' : sp vs H1 Q E := by rw [← List.append_nil vs]; exact q
  have hl : (us ++ []).length = ps.length := by rw [List.append_nil, ← rel.length]; exact F.many _ _ _ _ q'
  have b := hb s1 us J.kIn hl
  rw [List.append_nil] at b
  refine ⟨J.kIn, wpAny_call (codeAny_mono (F.goes X.A c X.stack s1 H1 ⟨us, []⟩ us vs Q E hr J.env0 b rel q') fun r s2 z => ?_)⟩
  match r, z with
  | .error _, z => exact hx pins σ H1 s1 _ s2 J z
  | .ok (.ret _), z => exact J.after z
  | .ok .next, z => exact z.elim
  | .ok .brk, z => exact z.elim
  | .ok .cont, z => exact z.elim
end

/-! ### the law's own call -/
/-- the script alone is tracked, or nothing -/
def track (a : Addr) (o : HO) : Hp := fun b => if b = a then some o else none
theorem track_at {a : Addr} {o : HO} : track a o a = some o := if_pos rfl
theorem track_off {a b : Addr} {o : HO} (h : b ≠ a) : track a o b = none := if_neg h

theorem lawG {P : Program} {w : World} {K : PySem.W.Frag} {mg mb : Str → Option Value} {k : Nat} {fa a : Addr} {fd : FuncData} {x : Str} {sp : Sp} {s : Shared} {us : List Value} {ns : List Int}
    (kin : K.In s.heap) (gl : s.heap.Ns mainGlobals mg) (bl : s.heap.Ns builtinsNs mb) (bb : ∀ x : Str, x ≠ "__name__" → mb x = bootBuiltins x) (lim : s.heap.NoLimit) (gens : s.gens = #[])
    (ha : s.heap.get? a = some { cls := .type "list", data := .seq us.toArray }) (whole : IntsAre us ns) (line : ns.length ≤ sizeLine) (room : Room k callerA)
    (F : ∀ base : Heap, K.In base → base.Ns mainGlobals mg → FnG P w K mg base CX0 k fa fd [x] sp)
    (bind : ∀ (s : Shared) (u : Value), BindsTo s fd ⟨[u], []⟩ [(x, u)])
    (hsp : ∀ H : Hp, SqL K H a (ns.map V.int) → sp [.ref a] H (fun v _ => v = .bl true) fun _ _ _ => False) :
    codeAny (model P w) callerA (.call (.ref fa) ⟨[.ref a], []⟩) (fun r s' => r = .ok (.ret (.bool true)) ∧ OldK s.heap s'.heap ∧ s'.os = s.os ∧ AllBare s'.gens) s := by
  have rel := vals_ints whole
  have size := whole.length
  -- H: the script, or nothing; what H does not track is in the base
  have go : ∀ H : Hp, SqL K H a (ns.map V.int) → HOk P w H s.heap → (∀ b u, H b = some u → b = a ∧ K.lookup a = none ∧ ∃ o xs, u = .frz o (.lst xs)) →
      codeAny (model P w) callerA (.call (.ref fa) ⟨[.ref a], []⟩) (fun r s' => r = .ok (.ret (.bool true)) ∧ OldK s.heap s'.heap ∧ s'.os = s.os ∧ AllBare s'.gens) s := by
    intro H hS hok only
    have free : ∀ {b : Addr}, b ≠ a → H b = none := fun {b} hb => by
      cases q : H b with
      | none => rfl
      | some u => exact absurd (only b u q).1 hb
    have notDict : ∀ {b : Addr} {o : Obj} {es : Array DictEntry} {n : Nat}, s.heap.get? b = some o → o.data = .dict es n → b ≠ a := fun {b o es n} e d z => by
      subst z
      rw [ha] at e
      have e' := Option.some.inj e
      subst e'
      cases d
    have keepNs : ∀ {b : Addr} {m : Str → Option Value}, s.heap.Ns b m → (hidT s.heap H).Ns b m := fun {b m} z => by
      obtain ⟨o, es, n, e, d, r⟩ := z
      exact ⟨o, es, n, hidT_get e (free (notDict e d)), d, r⟩
    have kinB : K.In (hidT s.heap H) := fun b o e => hidT_get (kin b o e) (by
      cases q : H b with
      | none => rfl
      | some u =>
        obtain ⟨z, no, _⟩ := only b u q
        rw [z, no] at e
        cases e)
    have limB : (hidT s.heap H).NoLimit := by
      obtain ⟨m, h1, h2⟩ := lim
      exact ⟨m, keepNs h1, h2⟩
    have e0 : Env0 P w K mg (hidT s.heap H) callerA [] s H :=
      { frames := rfl, mod := ⟨kinB, keepNs gl, ⟨mb, keepNs bl, bb⟩, limB⟩, bs := fun b o e => of_hidT e, bsz := Nat.le_of_eq (hidT_size _ _), funs := trivial,
        frf := fun b hb => (List.not_mem_nil (show b ∈ ([] : List Addr) from hb)).elim, hok := hok, bare := .of_eq gens }
    refine codeAny_mono ((F _ kinB (keepNs gl)).goes callerA rfl [] s H ⟨[.ref a], []⟩ [.ref a] [.ref a] _ _ room e0 (bind s (.ref a)) (.cons rfl .nil) (hsp H hS)) fun r s' z => ?_
    match r, z with
    | .error _, z => exact False.elim z
    | .ok .next, z => exact False.elim z
    | .ok .brk, z => exact False.elim z
    | .ok .cont, z => exact False.elim z
    | .ok (.ret u), z =>
      obtain ⟨v, H', os, bare, un, hok', rv, q⟩ := z
      have q' : v = .bl true := q
      subst q'
      obtain rfl : u = Value.bool true := rv
      refine ⟨rfl, OldK.of_keep fun b o e => ?_, os, bare⟩
      cases q : H b with
      | none => exact un.keep b o e q (List.not_mem_nil) (List.not_mem_nil)
      | some u =>
        obtain ⟨_, _, ob, xs, eu⟩ := only b u q
        subst eu
        have h1 := (hok b _ q).1
        have h2 := (hok' b _ (un.frzs b ob _ q)).1
        rw [e] at h1
        rw [h2, ← Option.some.inj h1]
  cases hk : K.lookup a with
  | none =>
    refine go (track a (.frz { cls := .type "list", data := .seq us.toArray } (.lst (ns.map V.int)))) (.inl (.inr ⟨_, track_at⟩)) (fun b u z => ?_) fun b u z => ?_
    · by_cases hb : b = a
      · subst hb
        have z' := track_at.symm.trans z
        cases z'
        exact ⟨ha, by rw [List.length_map]; exact line, us, _, rel, ha⟩
      · rw [track_off hb] at z
        cases z
    · by_cases hb : b = a
      · subst hb
        have z' := track_at.symm.trans z
        cases z'
        exact ⟨rfl, hk, _, _, rfl⟩
      · rw [track_off hb] at z
        cases z
  | some o =>
    have e := kin a o hk
    rw [ha] at e
    have e' := Option.some.inj e
    subst e'
    have small : us.toArray.size ≤ sizeLine := by rw [List.size_toArray, size]; exact line
    refine go (fun _ => none) (.inr ⟨_, us.toArray, _, hk, rfl, rfl, rfl, small, by simpa using rel⟩) (fun b u z => ?_) fun b u z => ?_
    · have z' : (none : Option HO) = some u := z
      cases z'
    · have z' : (none : Option HO) = some u := z
      cases z'

/-- what k_head leaves, from the law's promise -/
theorem walkG {l : PySem.W.OpenLaw} {n k : Nat} {q : Program} {loose : List Str} {XP : (Str → Option Value) → Heap → Prop} {YP : World → Heap → Prop} {d : DefRec} {K : Params → PySem.W.Frag} {sp : PySem.W.Frag → Sp} {x : Str}
    (most : l.most = some n) (line : n ≤ sizeLine) (nodef : d.params.defaults = []) (room : Room k callerA) (hY : ∀ (w : World) (h : Heap), YP w h → (K w.params).In h)
    (F : ∀ (w : World) (mg : Str → Option Value) (fa : Addr) (h : Heap), (K w.params).In h → h.Ns mainGlobals mg → mg d.name = some (.ref fa) →
      ∃ fd : FuncData, (∀ (s : Shared) (u : Value), BindsTo s fd ⟨[u], []⟩ [(x, u)]) ∧
        ∀ base : Heap, (K w.params).In base → base.Ns mainGlobals mg → FnG l.prog w (K w.params) mg base CX0 k fa fd [x] (sp (K w.params)))
    (hsp : ∀ (K : PySem.W.Frag) (H : Hp) (a : Addr) (ns : List Int), ns.length ≤ n → SqL K H a (ns.map V.int) → sp K [.ref a] H (fun v _ => v = .bl true) fun _ _ _ => False) :
    PySem.W.WalkO q loose XP YP l.row.toRowW d [] (fun f vs => PySem.call f vs) := by
  refine Att.attach_call most nodef fun w s0 s1 mg mb fa o pm cd doc a vs ns G Y _ _ _ named obj whole few gens => ?_
  have kin := hY w _ Y
  obtain ⟨fd, bind, all⟩ := F w mg fa _ kin G.T.g named
  exact lawG kin G.T.g G.T.b G.T.builtins G.T.nolimit gens obj whole (Nat.le_trans few line) room all bind fun H hS => hsp _ H a ns few hS
section
variable {K : PySem.W.Frag} {σ : L2.St} {H : Hp} {Q : VK} {D : Ends} {v x y : V} {i j : Int} {p q : Addr} {xs : List V} {ta tb tc te : TE} {tt tu : TT} {ts tr : TS}
theorem nn {H : Hp} {a b : Addr} {o : HO} (h' : H b = none) (h : H a = some o) : a ≠ b := ne_of_none h h'
theorem nn' {H : Hp} {a b : Addr} {o : HO} (h' : H b = none) (h : H a = some o) : b ≠ a := (ne_of_none h h').symm
theorem rd_var {n : Nat} (h : σ[n]? = some (some v)) (k : Q v H) : tVar n σ H Q := ⟨v, h, k⟩
theorem rd_c (k : Q v H) : tC v σ H Q := k
theorem rd_op {r : R2} (k : ta σ H fun x H1 => tb σ H1 fun y H2 => r x y H2 Q) : tOp r ta tb σ H Q := k
theorem rd_un {r : V → Hp → VK → Prop} (k : ta σ H fun x H1 => r x H1 Q) : tUn r ta σ H Q := k
theorem rd_I0 {g : Int → Int → V} (k : Q (g i j) H) : rI0 g (.int i) (.int j) H Q := ⟨i, j, rfl, rfl, k⟩
theorem rd_I {C : Int → Int → Prop} {g : Int → Int → V} (c : C i j) (k : Q (g i j) H) : rI C g (.int i) (.int j) H Q := ⟨i, j, rfl, rfl, c, k⟩
theorem rd_U {g : Int → V} (k : Q (g i) H) : rU g (.int i) H Q := ⟨i, rfl, k⟩
theorem rd_eq (s : scal x y = true) (k : Q (.bl (decide (x = y))) H) : rEq x y H Q := ⟨s, k⟩
theorem rd_ne (s : scal x y = true) (k : Q (.bl (!decide (x = y))) H) : rNe x y H Q := ⟨s, k⟩
theorem rd_ixL (h : H p = some (.lst xs)) (e : atI xs i = some v) (k : Q v H) : rIxL K (.ref p) (.int i) H Q := ⟨p, xs, i, v, rfl, rfl, SqL.of h, e, k⟩
theorem rd_ixLs (h : SqL K H p xs) (e : atI xs i = some v) (k : Q v H) : rIxL K (.ref p) (.int i) H Q := ⟨p, xs, i, v, rfl, rfl, h, e, k⟩
theorem rd_ixT (h : H p = some (.tup xs)) (e : atI xs i = some v) (k : Q v H) : rIxT K (.ref p) (.int i) H Q := ⟨p, xs, i, v, rfl, rfl, SqT.of h, e, k⟩
theorem rd_setL {z : V} {n : Nat} {R : Hp → Prop} (h : H p = some (.lst xs)) (e : ixN xs.length i = some n) (k : R (upd H p (.lst (xs.set n z)))) : rSetL (.ref p) (.int i) z H R := ⟨p, xs, i, n, rfl, rfl, h, e, k⟩
theorem rd_sub {to ti : TE} {t : TSet} {R : L2.St → Hp → Prop} (k : to σ H fun o H1 => ti σ H1 fun i H2 => t o i v H2 fun H3 => R σ H3) : gSub to ti t v σ H R := k
theorem rd_test {R : Bool → Hp → Prop} (k : ta σ H fun x H' => ∃ b, x = .bl b ∧ R b H') : tTest ta σ H R := k
theorem rd_tB {R : Bool → Hp → Prop} (k : ta σ H fun x H' => ∃ b, x = .bl b ∧ R b H') : tB ta σ H R := k
theorem rd_bl {b : Bool} {R : Bool → Prop} (k : R b) : ∃ c, V.bl b = .bl c ∧ R c := ⟨b, rfl, k⟩
theorem rd_chain {r r' : R2} (k : ta σ H fun x H1 => tb σ H1 fun y H2 => r x y H2 fun z H3 => ∃ b, z = .bl b ∧ if b = true then tc σ H3 fun u H4 => r' y u H4 Q else Q (.bl false) H3) : tChain r r' ta tb tc σ H Q := k
theorem rd_and {R : Bool → Hp → Prop} (k : tt σ H fun c H1 => if c = true then tu σ H1 R else R false H1) : tAnd tt tu σ H R := k
theorem rd_or {R : Bool → Hp → Prop} (k : tt σ H fun c H1 => if c = true then R true H1 else tu σ H1 R) : tOr tt tu σ H R := k
theorem rd_not {R : Bool → Hp → Prop} (k : tt σ H fun c H1 => R (!c) H1) : tNot tt σ H R := k
theorem rd_andV (k : ta σ H fun x H1 => ∃ c, x = .bl c ∧ if c = true then tb σ H1 Q else Q (.bl false) H1) : tAndV ta tb σ H Q := k
theorem rd_orV (k : ta σ H fun x H1 => ∃ c, x = .bl c ∧ if c = true then Q (.bl true) H1 else tb σ H1 Q) : tOrV ta tb σ H Q := k
theorem rd_notV (k : ta σ H fun x H1 => ∃ c, x = .bl c ∧ Q (.bl (!c)) H1) : tNotV ta σ H Q := k
theorem rd_if (k : tt σ H fun c H1 => if c = true then ta σ H1 Q else tb σ H1 Q) : tIf tt ta tb σ H Q := k
theorem rd_ifS (k : tt σ H fun b H1 => if b = true then ts D σ H1 else tr D σ H1) : tIfS tt ts tr D σ H := k
theorem rd_seq (k : ts { D with nx := tr D } σ H) : tSeq ts tr D σ H := k
theorem rd_next (k : D.nx σ H) : tNext D σ H := k
theorem rd_asg {g : TG} (k : te σ H fun x H1 => g x σ H1 D.nx) : tAsg te g D σ H := k
theorem rd_name {n : Nat} {R : L2.St → Hp → Prop} (k : R (σ.set n (some v)) H) : gName n v σ H R := k
theorem rd_gnil {R : L2.St → Hp → Prop} (k : R σ H) : gNil [] σ H R := ⟨rfl, k⟩
theorem rd_gcons {t : TG} {u : TGs} {R : L2.St → Hp → Prop} (k : t v σ H fun σ' H' => u xs σ' H' R) : gCons t u (v :: xs) σ H R := ⟨v, xs, rfl, k⟩
theorem rd_gtup {n : Nat} {t : TGs} {R : L2.St → Hp → Prop} (h : H p = some (.tup xs)) (e : xs.length = n) (k : t xs σ H R) : gTup K n t (.ref p) σ H R := ⟨p, xs, rfl, SqT.of h, e, k⟩
theorem rd_par {a b : Nat} {tA : TA} (k : tA σ H fun vs H1 => ∃ v w, vs = [v, w] ∧ D.nx ((σ.set a (some v)).set b (some w)) H1) : tPar a b tA D σ H := k
theorem rd_par2 {R : V → V → Prop} (k : R x y) : ∃ v w, [x, y] = [v, w] ∧ R v w := ⟨x, y, rfl, k⟩
theorem rd_drop (k : te σ H fun _ H1 => D.nx σ H1) : tDrop te D σ H := k
theorem rd_ret (k : te σ H D.rt) : tRet te D σ H := k
theorem rd_retN (k : D.rt .non H) : tRetN D σ H := k
theorem rd_nil {R : List V → Hp → Prop} (k : R [] H) : tNil σ H R := k
theorem rd_cons {tl : TA} {R : List V → Hp → Prop} (k : ta σ H fun x H1 => tl σ H1 fun xs H2 => R (x :: xs) H2) : tCons ta tl σ H R := k
theorem rd_tup {tA : TA} (k : tA σ H fun xs H1 => xs.length ≤ sizeLine ∧ ∀ p, H1 p = none → Q (.ref p) (upd H1 p (.tup xs))) : tTup tA σ H Q := k
theorem rd_lst {tA : TA} (k : tA σ H fun xs H1 => xs.length ≤ sizeLine ∧ ∀ p, H1 p = none → Q (.ref p) (upd H1 p (.lst xs))) : tLst tA σ H Q := k
theorem few {n : Nat} (h : n ≤ 1000) : n ≤ sizeLine := Nat.le_of_lt (small1000 h)
theorem rd_new {R : Addr → Prop} (h : xs.length ≤ 1000) (k : ∀ p, H p = none → R p) : xs.length ≤ sizeLine ∧ ∀ p, H p = none → R p := ⟨few h, k⟩
theorem rd_cb {r : List V → Hp → VK → Prop} {tA : TA} (k : tA σ H fun vs H1 => r vs H1 Q) : tCB r tA σ H Q := k
theorem rd_call {sp : Sp} {E : XK} {tA : TA} (k : tA σ H fun vs H1 => sp (vs ++ []) H1 Q E) : tCall sp [] E tA σ H Q := k
theorem rd_make {C : Addr} {sp : Sp} {E : XK} {tA : TA} (k : tA σ H fun vs H1 => ∀ x dx, H1 x = none → H1 dx = none → dx ≠ x →
  sp (.ref x :: (vs ++ [])) (upd (upd H1 dx (.own x)) x (.ins C dx [])) (fun v H2 => v = .non ∧ Q (.ref x) H2) E) : tMake C sp [] E tA σ H Q := k
theorem rd_fld {f : Str} (k : ta σ H fun x H1 => ∃ a C dx fs v, x = .ref a ∧ H1 a = some (.ins C dx fs) ∧ Cls K C ∧ NoAttr K C f ∧ fs.lookup f = some v ∧ Q v H1) : tFld K ta f σ H Q := k
theorem rd_int {R : Int → Prop} {S : Prop} (k : R i) : (∃ j, [V.int i] = [V.int j] ∧ R j) ∨ S := .inl ⟨i, rfl, k⟩
theorem rd_intB {b : Bool} {R : Bool → Prop} {S : Prop} (k : R b) : S ∨ (∃ c, [V.bl b] = [V.bl c] ∧ R c) := .inr ⟨b, rfl, k⟩
theorem rd_one {R : Int → Prop} (k : R i) : ∃ j, [V.int i] = [V.int j] ∧ R j := ⟨i, rfl, k⟩
theorem rd_two {R : Int → Int → Prop} (k : R i j) : ∃ a b, [V.int i, V.int j] = [V.int a, V.int b] ∧ R a b := ⟨i, j, rfl, k⟩
theorem rd_lenL {R : List V → Prop} (h : H p = some (.lst xs)) (k : R xs) : ∃ a ys, [V.ref p] = [V.ref a] ∧ (SqL K H a ys ∨ SqT K H a ys) ∧ R ys := ⟨p, xs, rfl, .inl (SqL.of h), k⟩
theorem rd_lenLs {R : List V → Prop} (h : SqL K H p xs) (k : R xs) : ∃ a ys, [V.ref p] = [V.ref a] ∧ (SqL K H a ys ∨ SqT K H a ys) ∧ R ys := ⟨p, xs, rfl, .inl h, k⟩
theorem rd_lenT {R : List V → Prop} (h : H p = some (.tup xs)) (k : R xs) : ∃ a ys, [V.ref p] = [V.ref a] ∧ (SqL K H a ys ∨ SqT K H a ys) ∧ R ys := ⟨p, xs, rfl, .inr (SqT.of h), k⟩
theorem rd_fldI {C dx a : Addr} {fs : List (Str × V)} {f : Str} (h : H a = some (.ins C dx fs)) (c : Cls K C) (n : NoAttr K C f) (l : fs.lookup f = some v) (k : Q v H) :
    ∃ a' C dx fs v, V.ref a = .ref a' ∧ H a' = some (.ins C dx fs) ∧ Cls K C ∧ NoAttr K C f ∧ fs.lookup f = some v ∧ Q v H := ⟨a, C, dx, fs, v, rfl, h, c, n, l, k⟩
theorem rd_ite {c : Prop} [Decidable c] {A B : Prop} (h1 : c → A) (h2 : ¬ c → B) : if decide c = true then A else B := by
  by_cases h : c
  · rw [if_pos (decide_eq_true h)]
    exact h1 h
  · rw [if_neg (by rw [decide_eq_false h]; exact Bool.false_ne_true)]
    exact h2 h
theorem rd_iteN {c : Prop} [Decidable c] {A B : Prop} (h1 : ¬ c → A) (h2 : c → B) : if (!decide c) = true then A else B := by
  by_cases h : c
  · rw [decide_eq_true h]
    exact iteF (h2 h)
  · rw [decide_eq_false h]
    exact iteT (h1 h)
theorem rd_iteB {b : Bool} {A B : Prop} (h1 : b = true → A) (h2 : b = false → B) : if b = true then A else B := by
  cases b with
  | true => exact iteT (h1 rfl)
  | false => exact iteF (h2 rfl)
end
section
variable {K : PySem.W.Frag} {H : Hp} {Q : VK} {a b c : V} {p : Addr} {xs : List V}
theorem rd_ixL0 (h : H p = some (.lst (a :: xs))) (k : Q a H) : rIxL K (.ref p) (.int 0) H Q := rd_ixL h (atI_nat (j := 0) rfl) k
theorem rd_ixL1 (h : H p = some (.lst (a :: b :: xs))) (k : Q b H) : rIxL K (.ref p) (.int 1) H Q := rd_ixL h (atI_nat (j := 1) rfl) k
theorem rd_ixL2 (h : H p = some (.lst (a :: b :: c :: xs))) (k : Q c H) : rIxL K (.ref p) (.int 2) H Q := rd_ixL h (atI_nat (j := 2) rfl) k
theorem rd_ixT0 (h : H p = some (.tup (a :: xs))) (k : Q a H) : rIxT K (.ref p) (.int 0) H Q := rd_ixT h (atI_nat (j := 0) rfl) k
theorem rd_ixT1 (h : H p = some (.tup (a :: b :: xs))) (k : Q b H) : rIxT K (.ref p) (.int 1) H Q := rd_ixT h (atI_nat (j := 1) rfl) k
theorem rd_setL0 {z : V} {R : Hp → Prop} (h : H p = some (.lst (a :: xs))) (k : R (upd H p (.lst (z :: xs)))) : rSetL (.ref p) (.int 0) z H R := rd_setL (n := 0) h (by simp [ixN]) k
theorem rd_setL2 {z : V} {R : Hp → Prop} (h : H p = some (.lst (a :: b :: c :: xs))) (k : R (upd H p (.lst (a :: b :: z :: xs)))) : rSetL (.ref p) (.int 2) z H R := rd_setL (n := 2) h (by simp [ixN]; omega) k
end
section
variable {K : PySem.W.Frag} {H : Hp} {Q : VK} {i j : Int} {p : Addr} {xs : List V}
/-- an item at an open place within -/
theorem rd_ixLr (h : H p = some (.lst xs)) (h0 : 0 ≤ i) (h1 : i < xs.length) (k : ∀ v, v ∈ xs → Q v H) : rIxL K (.ref p) (.int i) H Q := by
  have hlt : i.toNat < xs.length := by omega
  have e : xs[i.toNat]? = some xs[i.toNat] := List.getElem?_eq_getElem hlt
  exact rd_ixL h (at_of (Int.toNat_of_nonneg h0).symm e) (k _ (List.getElem_mem hlt))
theorem rd_ixLsr (h : SqL K H p xs) (h0 : 0 ≤ i) (h1 : i < xs.length) (k : ∀ v, v ∈ xs → Q v H) : rIxL K (.ref p) (.int i) H Q := by
  have hlt : i.toNat < xs.length := by omega
  have e : xs[i.toNat]? = some xs[i.toNat] := List.getElem?_eq_getElem hlt
  exact rd_ixLs h (at_of (Int.toNat_of_nonneg h0).symm e) (k _ (List.getElem_mem hlt))
/-- % hands on a letter -/
theorem rd_mod (c : 0 < j) (k : ∀ r, r = i % j → 0 ≤ r → r < j → Q (.int r) H) : rI (fun _ j => 0 < j) (fun i j => .int (i % j)) (.int i) (.int j) H Q :=
  rd_I c (k _ rfl (Int.emod_nonneg _ (by omega)) (Int.emod_lt_of_pos _ c))
theorem cmul_l (h1 : -(2 ^ 64) < i) (h2 : i < 2 ^ 64) : CMul i j := .inl ⟨h1, h2⟩
theorem cmul_r (h1 : -(2 ^ 64) < j) (h2 : j < 2 ^ 64) : CMul i j := .inr ⟨h1, h2⟩
theorem cpow (h0 : 0 ≤ j) (h1 : j ≤ 1000000) (h2 : -(2 ^ 64) < i) (h3 : i < 2 ^ 64) : CPow i j := ⟨h0, h1, by omega⟩
theorem cdivw {n : Int} (h0 : 0 < j) (h1 : j < 2 ^ 200) : CDivW n j := wide_div h0 (b := 200) (by omega) (by decide) (by decide)
end
section
variable {K : PySem.W.Frag} {σ : L2.St} {H : Hp} {Q : VK} {D : Ends} {v x y : V} {i j : Int} {a C dx : Addr} {fs : List (Str × V)} {ta te : TE} {f : Str}
theorem rd_sfld (k : te σ H fun y H1 => ta σ H1 fun x H2 => ∃ a C dx fs, x = .ref a ∧ H2 a = some (.ins C dx fs) ∧ Cls K C ∧ NoAttr K C f ∧ fs.length < 1000 ∧ D.nx σ (upd H2 a (.ins C dx (putF f y fs)))) : sFld K ta te f D σ H := k
theorem rd_sfldI {R : Hp → Prop} (h : H a = some (.ins C dx fs)) (c : Cls K C) (n : NoAttr K C f) (l : fs.length < 1000) (k : R (upd H a (.ins C dx (putF f y fs)))) :
    ∃ a' C' dx' fs', V.ref a = .ref a' ∧ H a' = some (.ins C' dx' fs') ∧ Cls K C' ∧ NoAttr K C' f ∧ fs'.length < 1000 ∧ R (upd H a' (.ins C' dx' (putF f y fs'))) := ⟨a, C, dx, fs, rfl, h, c, n, l, k⟩
end
theorem rd_rf {R : Prop} (k : R) : V.non = V.non ∧ R := ⟨rfl, k⟩
theorem rd_bm {K : PySem.W.Frag} {T : String} {r : V → List V → Hp → VK → Prop} {to : TE} {t : TA} {σ : L2.St} {H : Hp} {Q : VK} (k : to σ H fun x H1 => tyV K T x H1 ∧ t σ H1 fun xs H2 => r x xs H2 Q) : tBM K T r to t σ H Q := k
local macro_rules | `(tactic| fail "z hp") => `(tactic| (with_reducible first
  | assumption
  | exact L2.upd_same
  | (refine' (L2.upd_ne ?zn).trans ?zm; (case zn => fail "z ne"); (case zm => fail "z hp"))))
local macro_rules | `(tactic| fail "z ne") => `(tactic| (with_reducible first
  | assumption
  | exact Ne.symm (by assumption)
  | exact Zg.nn (by assumption) (by assumption)
  | exact Zg.nn' (by assumption) (by assumption)
  | (refine' Zg.nn (by assumption) ?zm; (case zm => fail "z hp"))
  | (refine' Zg.nn' (by assumption) ?zm; (case zm => fail "z hp"))))
local macro_rules | `(tactic| fail "z 1") => `(tactic| (with_reducible first
  | refine Zg.rd_var rfl ?_
  | refine Zg.rd_c ?_
  | refine Zg.rd_seq ?_
  | refine Zg.rd_asg ?_
  | refine Zg.rd_name ?_
  | refine Zg.rd_op ?_
  | refine Zg.rd_I0 ?_
  | refine Zg.rd_ret ?_
  | refine Zg.rd_ifS ?_
  | refine Zg.rd_test ?_
  | refine Zg.rd_tB ?_
  | refine Zg.rd_bl ?_
  | refine Zg.rd_un ?_
  | refine Zg.rd_U ?_
  | refine Zg.rd_cons ?_
  | refine Zg.rd_nil ?_
  | refine Zg.rd_sub ?_
  | refine Zg.rd_lst ?_
  | refine Zg.rd_tup ?_
  | refine Zg.rd_cb ?_
  | refine Zg.rd_call ?_
  | refine Zg.rd_make ?_
  | refine Zg.rd_fld ?_
  | refine Zg.rd_chain ?_
  | refine Zg.rd_and ?_
  | refine Zg.rd_or ?_
  | refine Zg.rd_not ?_
  | refine Zg.rd_andV ?_
  | refine Zg.rd_orV ?_
  | refine Zg.rd_notV ?_
  | refine Zg.rd_if ?_
  | refine Zg.rd_next ?_
  | refine Zg.rd_par ?_
  | refine Zg.rd_par2 ?_
  | refine Zg.rd_gnil ?_
  | refine Zg.rd_gcons ?_
  | refine Zg.rd_drop ?_
  | refine Zg.rd_retN ?_
  | refine Zg.rd_eq rfl ?_
  | refine Zg.rd_ne rfl ?_
  | refine Zg.rd_int ?_
  | refine Zg.rd_intB ?_
  | refine Zg.rd_one ?_
  | refine Zg.rd_two ?_
  | refine Zg.rd_sfld ?_
  | refine Zg.rd_bm ?_))
local macro_rules | `(tactic| fail "z side") => `(tactic| (with_reducible first
  | assumption
  | exact Zg.cmul_l (by omega) (by omega)
  | exact Zg.cmul_r (by omega) (by omega)
  | exact Zg.cpow (by omega) (by omega) (by omega) (by omega)
  | exact Zg.cdivw (by omega) (by omega)
  | (show (0 : Int) < _; omega)))
local macro_rules | `(tactic| fail "z 2") => `(tactic| (with_reducible first
  | (refine' Zg.rd_ixL0 ?zh ?_; (case zh => fail "z hp"))
  | (refine' Zg.rd_ixL1 ?zh ?_; (case zh => fail "z hp"))
  | (refine' Zg.rd_ixL2 ?zh ?_; (case zh => fail "z hp"))
  | (refine' Zg.rd_ixT0 ?zh ?_; (case zh => fail "z hp"))
  | (refine' Zg.rd_ixT1 ?zh ?_; (case zh => fail "z hp"))
  | (refine' Zg.rd_I ?zh ?_; (case zh => fail "z side"))
  | (refine' Zg.rd_setL0 ?zh ?_; (case zh => fail "z hp"))
  | (refine' Zg.rd_setL2 ?zh ?_; (case zh => fail "z hp"))
  | (refine' Zg.rd_lenL ?zh ?_; (case zh => fail "z hp"))
  | (refine' Zg.rd_lenT ?zh ?_; (case zh => fail "z hp"))
  | (refine' Zg.rd_new ?zh ?_; (case zh => exact (Nat.le_of_ble_eq_true rfl)))))
local macro_rules | `(tactic| fail "z go") => `(tactic| repeat (first | fail "z 1" | fail "z 2"))
local macro_rules | `(tactic| fail "z run") => `(tactic| repeat (first | fail "z 1" | fail "z 2" | (with_reducible first | refine L2.iteT ?_ | refine L2.iteF ?_ | refine Zg.rd_rf ?_)))
/-! ### own operators of instances -/
section
variable {X : Cx} {CX : CXT} {pins : List (Addr × Obj)} {σ : L2.St} {H : Hp} {s : Shared} {C g : Addr} {fd : FuncData} {ps : List Str} {k : Nat} {sp : Sp} {E : XK}
theorem run_in {A : Around} {Q : VK} {us : List Value} {ws : List V} (F : FnOk X.prog X.w X.K X.mg X.base CX k g fd ps sp) (hr : Room k A) (hb : Binds X.K fd ps []) (e0 : Env0 X.prog X.w X.K X.mg X.base A X.stack s H)
    (hx : Passes CX X E) (I : Inv X pins σ H s) (r : Vals ws us) (h : sp ws H Q E) : wpAny (model X.prog X.w) A (call (.ref g) us) (EP X pins σ Q) X.xe s := by
  have hl : (us ++ []).length = ps.length := by rw [List.append_nil, ← r.length]; exact F.len _ _ _ _ h
  have b := hb s us I.kIn hl
  rw [List.append_nil] at b
  refine wpAny_call (codeAny_mono (F.run A X.stack s H ⟨us, []⟩ us ws Q E hr e0 b r h) fun r s' hq => ?_)
  match r, hq with
  | .error e, z => exact hx pins σ H s e s' I z
  | .ok (.ret _), z => exact I.after z
  | .ok .next, z => exact z.elim
  | .ok .brk, z => exact z.elim
  | .ok .cont, z => exact z.elim
/-- x op y, two instances of the class at C whose def for op is at g -/
def rOwnI (C : Addr) (sp : Sp) (E : XK) : R2 := fun x y H Q => ∃ a dx fs b dy gs, x = .ref a ∧ y = .ref b ∧ H a = some (.ins C dx fs) ∧ H b = some (.ins C dy gs) ∧ sp [x, y] H Q E
theorem op_cmpI {op : CmpOp} (hop : ∀ a b, compareOp op a b = richCompare op a b) (hs : PySem.W.findIn X.K (.ref C) (cmpInfo op).2.1 = some (some (.ref g))) (hf : PySem.W.isFn X.K (.ref g) = true)
    (F : FnOk X.prog X.w X.K X.mg X.base CX k g fd ps sp) (hr : Room k X.A) (hb : Binds X.K fd ps []) (hx : Passes CX X E) : OpR X (compareOp op) (rOwnI C sp E) := by
  intro pins s σ H x y v u Q I rx ry h
  obtain ⟨a, dx, fs, b, dy, gs, rfl, rfl, ha, hb', q⟩ := h
  cases (show v = Value.ref a from rx)
  cases (show u = Value.ref b from ry)
  obtain ⟨mA, O, _⟩ := ins_get I.hok ha
  obtain ⟨od, J, _⟩ := O.look
  obtain ⟨mB, O', _⟩ := ins_get I.hok hb'
  obtain ⟨od', J', _⟩ := O'.look
  obtain ⟨m, hF⟩ := I.fr
  rw [hop]
  refine PySem.W.cmp_K (op := op) (tb := .ref C) hr.units0 hF I.ok.mod.kin J J'.type (by simp [PySem.W.notFirst]) hs hf ?_
  refine wpAny_mono (run_in (us := [.ref a, .ref b]) (ws := [.ref a, .ref b]) F hr hb I.env0 hx I (.cons rfl (.cons rfl .nil)) q) (fun w s' z => ?_) fun _ _ x => x
  obtain ⟨z', H', I', rz, qz⟩ := z
  exact SlX.cmpback rz ⟨z', H', I', rz, qz⟩
theorem op_binI {op : Operator} (hc : PySem.W.selfFirst X.K C = true) (hs : PySem.W.findIn X.K (.ref C) (PySem.dunder op.info.2) = some (some (.ref g))) (hf : PySem.W.isFn X.K (.ref g) = true)
    (F : FnOk X.prog X.w X.K X.mg X.base CX k g fd ps sp) (hr : Room k X.A) (hb : Binds X.K fd ps []) (hx : Passes CX X E) : OpR X (binaryOp op) (rOwnI C sp E) := by
  intro pins s σ H x y v u Q I rx ry h
  obtain ⟨a, dx, fs, b, dy, gs, rfl, rfl, ha, hb', q⟩ := h
  cases (show v = Value.ref a from rx)
  cases (show u = Value.ref b from ry)
  obtain ⟨mA, O, _⟩ := ins_get I.hok ha
  obtain ⟨od, J, _⟩ := O.look
  obtain ⟨mB, O', _⟩ := ins_get I.hok hb'
  obtain ⟨od', J', _⟩ := O'.look
  obtain ⟨m, hF⟩ := I.fr
  refine PySem.W.binop_K hF I.ok.mod.kin J J'.type hc hs hf ?_
  refine wpAny_mono (run_in (us := [.ref a, .ref b]) (ws := [.ref a, .ref b]) F hr hb I.env0 hx I (.cons rfl (.cons rfl .nil)) q) (fun w s' z => ?_) fun _ _ x => x
  obtain ⟨z', H', I', rz, qz⟩ := z
  exact SlX.cmpback rz ⟨z', H', I', rz, qz⟩
end
section
variable {M : Model} {prog : Program} {w : World} {A : Around} {E : Value → Shared → Prop} {s : Shared} {K : PySem.W.Frag} {x C f : Addr} {ox : Obj} {od : Option Obj} {b : Value}
theorem ifBound_ne {args : List Value} {Q : Option Value → Shared → Prop} (X : K.In s.heap) (I : PySem.W.InstAt s.heap x ox C od) (hs : PySem.W.findIn K (.ref C) "__ne__" = some (some (.builtin "object.__ne__")))
    (h : wpAny M A (call (.builtin "object.__ne__") (.ref x :: args)) (fun v => Q (some v)) E s) : wpAny M A (callSpecialIfBound? (.ref x) "__ne__" args) Q E s := by
  simp only [callSpecialIfBound?, bindSpecialIfBound?]
  refine wpAny_holding (wpAny_bind (wpAny_bind (wpAny_bind (I.type.here ((PySem.W.looks_findIn X hs).here ?_)))))
  refine wpAny_bind (wpAny_askSetting (wpAny_ite ?_))
  have fin : wpAny M A (call (.builtin "object.__ne__") ([.ref x] ++ args) >>= fun v => pure (some v)) Q E s := wpAny_bind (wpAny_mono h (fun v s' h' => wpAny_pure h') fun _ _ h' => h')
  split
  · exact wpAny_bind (wpAny_of_eq (F.cmp_object.ne.bind _) (wpAny_pure (by exact fin)))
  · exact wpAny_tryCatch (wpAny_bind (wpAny_of_eq (F.cmp_object.ne.bind _) (wpAny_pure (by exact fin))))
theorem entry_ne {Q : PySem.Fin → Shared → Prop} (hu : A.units < cLine) (X : K.In s.heap) (I : PySem.W.InstAt s.heap x ox C od) (hs : PySem.W.findIn K (.ref C) "__eq__" = some (some (.ref f))) (hf : PySem.W.isFn K (.ref f) = true)
    (h : wpAny (model prog w) A (call (.ref f) [.ref x, b]) (fun v s' => ∃ c, v = .bool c ∧ Q (.done (.ret (.bool (!c)))) s') E s) : wpAny (model prog w) A (Builtin.«object.__ne__» ⟨[.ref x, b], []⟩) Q E s := by
  unfold Builtin.«object.__ne__»
  repeat (first
    | with_reducible refine wpAny_cRoomFor hu ?_
    | (refine wpAny_bind (m := callSpecialIfBound? (.ref x) (Str.ofString "__eq__") [b])
        (PySem.W.ifBound_K X I hs hf (wpAny_mono h (fun r s' hr => by
          obtain ⟨c, rfl, hq⟩ := hr
          repeat (first | exact hq | exact wpAny_pure hq | exact wpAny_truthy_bool hq | (refine wpAny_bind (m := truthy (.bool _)) (wpAny_truthy_bool ?_)) | wp_step)) fun _ _ e => e)))
    | wp_step)
theorem ne_K {L : Addr} {h₀ : Heap} {m : Str → Option Value} {Q : Value → Shared → Prop} (hu : A.units + 1 < cLine) (F0 : PyProof.Rows.Fr h₀ L s.heap m) (X₀ : K.In h₀) (I : PySem.W.InstAt s.heap x ox C od) (hb : PySem.W.Looks (model prog w) s.heap (typeOf b) (.ref C))
    (hm : PySem.W.mroIn K C (.type "object") = some true) (hn : PySem.W.findIn K (.ref C) "__ne__" = some (some (.builtin "object.__ne__"))) (hs : PySem.W.findIn K (.ref C) "__eq__" = some (some (.ref f))) (hf : PySem.W.isFn K (.ref f) = true)
    (h : wpAny (model prog w) A.in1 (call (.ref f) [.ref x, b]) (fun v s' => ∃ c, v = .bool c ∧ Q (.bool (!c)) s') E s) : wpAny (model prog w) A (richCompare .NotEq (.ref x) b) Q E s := by
  have X := X₀.keeps F0.keep
  have one : wpAny (model prog w) A (tryCompare (.ref x) "__ne__" b) (fun r s' => ∃ v, r = some v ∧ Q v s') E s := by
    unfold tryCompare
    refine wpAny_bind (ifBound_ne X I hn (wpAny_call (codeAny_call_builtin F.cmp_object.ne.plain F.cmpEntry_ne (PySem.W.check_slot F.cmpKind_ne F.cmpSplit_ne (I.type.andThen (PySem.W.looks_mroIn X hm)) (F.cmpArgs_ne _ _)
      (entry_ne (A := A.in1) hu X I hs hf (wpAny_mono h (fun v s' hv => ?_) fun _ _ e => e))))))
    obtain ⟨c, rfl, hq⟩ := hv
    first
      | exact ⟨c, rfl, wpAny_pure ⟨_, rfl, hq⟩⟩
      | exact ⟨c, rfl, _, rfl, hq⟩
  simp only [richCompare, cmpInfo_NotEq, oneThing_ref]
  refine wpAny_holding (wpAny_bind (wpAny_cRoomFor (Nat.lt_of_succ_lt hu) ?_))
  refine wpAny_bind (I.type.here (wpAny_bind (hb.here ?_)))
  rw [show (Value.ref C != Value.ref C) = false from by simp]
  simp only [Bool.false_eq_true, if_false]
  refine wpAny_bind (wpAny_pure ?_)
  simp only [Bool.false_eq_true, if_false]
  refine wpAny_bind (wpAny_mono one (fun r s' z => ?_) fun _ _ e => e)
  obtain ⟨v, rfl, hq⟩ := z
  exact wpAny_pure hq
end
section
variable {X : Cx} {CX : CXT} {C g : Addr} {fd : FuncData} {ps : List Str} {k : Nat} {sp : Sp} {E : XK}
/-- x != y by the own == -/
def rNeI (C : Addr) (sp : Sp) (E : XK) : R2 := fun x y H Q => ∃ a dx fs b dy gs, x = .ref a ∧ y = .ref b ∧ H a = some (.ins C dx fs) ∧ H b = some (.ins C dy gs) ∧ sp [x, y] H (fun z H' => ∃ c, z = .bl c ∧ Q (.bl (!c)) H') E
theorem op_neI (hm : PySem.W.mroIn X.K C (.type "object") = some true) (hn : PySem.W.findIn X.K (.ref C) "__ne__" = some (some (.builtin "object.__ne__"))) (hs : PySem.W.findIn X.K (.ref C) "__eq__" = some (some (.ref g))) (hf : PySem.W.isFn X.K (.ref g) = true)
    (F : FnOk X.prog X.w X.K X.mg X.base CX k g fd ps sp) (hr : Room (k + 1) X.A) (hb : Binds X.K fd ps []) (hx : Passes CX X E) (hu : X.A.units + 1 < cLine) : OpR X (compareOp .NotEq) (rNeI C sp E) := by
  intro pins s σ H x y v u Q I rx ry h
  obtain ⟨a, dx, fs, b, dy, gs, rfl, rfl, ha, hb', q⟩ := h
  cases (show v = Value.ref a from rx)
  cases (show u = Value.ref b from ry)
  obtain ⟨mA, O, _⟩ := ins_get I.hok ha
  obtain ⟨od, J, _⟩ := O.look
  obtain ⟨mB, O', _⟩ := ins_get I.hok hb'
  obtain ⟨od', J', _⟩ := O'.look
  obtain ⟨m, hF⟩ := I.fr
  show wpAny _ _ (richCompare .NotEq (.ref a) (.ref b)) _ _ s
  refine ne_K hu hF I.ok.mod.kin J J'.type hm hn hs hf ?_
  refine wpAny_mono (run_in (us := [.ref a, .ref b]) (ws := [.ref a, .ref b]) F hr.in1 hb I.env0.in1 hx I (.cons rfl (.cons rfl .nil)) q) (fun w s' z => ?_) fun _ _ x => x
  obtain ⟨z', H', I', rz, c, ec, qz⟩ := z
  subst ec
  cases (show w = Value.bool c from rz)
  exact ⟨c, rfl, .bl (!c), H', I', rfl, qz⟩
end
def top (i : Nat) : Stmt := PySem.Challenge.pw_widerkeys_k36_marks_within_marks.main.body.getD i (.Pass ⟨0, 0, 0, 0⟩)
abbrev s__law_take : Stmt := (top 66)
abbrev N__law_take : List Str := ["_law_pot", "_law_upto", "_law_digit", "_law_prime", "_law_mixed"]
abbrev P__law_take : List Str := ["_law_pot", "_law_upto"]
theorem sc__law_take : FnScope N__law_take P__law_take (defScope s__law_take) := ⟨rfl, rfl, rfl, by decide +kernel, rfl, by decide +kernel, by decide +kernel⟩
abbrev s__law_of : Stmt := (top 67)
abbrev N__law_of : List Str := ["_law_pot", "_law_some"]
abbrev P__law_of : List Str := ["_law_pot", "_law_some"]
theorem sc__law_of : FnScope N__law_of P__law_of (defScope s__law_of) := ⟨rfl, rfl, rfl, by decide +kernel, rfl, by decide +kernel, by decide +kernel⟩
abbrev s__law_pot_of : Stmt := (top 65)
abbrev N__law_pot_of : List Str := ["_law_script", "_law_k", "_law_cell", "_law_own"]
abbrev P__law_pot_of : List Str := ["_law_script", "_law_k"]
theorem sc__law_pot_of : FnScope N__law_pot_of P__law_pot_of (defScope s__law_pot_of) := ⟨rfl, rfl, rfl, by decide +kernel, rfl, by decide +kernel, by decide +kernel⟩

/-- a pot from which n more numbers may be drawn -/
def Pot (H : Hp) (p : Addr) (n : Nat) : Prop := ∃ o s c : Int, H p = some (.lst [.int o, .int s, .int c]) ∧ 0 ≤ o ∧ 0 ≤ s ∧ s < 2305843009213693921 ∧ 0 ≤ c ∧ c + n ≤ 100000
/-- all that was tracked stands, but p -/
def Kp (p : Addr) (H H' : Hp) : Prop := ∀ b o, b ≠ p → H b = some o → H' b = some o
theorem Kp.refl {p : Addr} {H : Hp} : Kp p H H := fun _ _ _ h => h
theorem Kp.trans {p : Addr} {H H1 H2 : Hp} (a : Kp p H H1) (b : Kp p H1 H2) : Kp p H H2 := fun c o n h => b c o n (a c o n h)
theorem Kp.put {p : Addr} {H H1 : Hp} {o : HO} (a : Kp p H H1) : Kp p H (upd H1 p o) := fun c u n h => by
  rw [upd_ne n]
  exact a c u n h
theorem Kp.new {p q : Addr} {H H1 : Hp} {o : HO} (a : Kp p H H1) (hq : H1 q = none) : Kp p H (upd H1 q o) := fun c u n h => by
  have z := a c u n h
  rw [upd_ne (ne_of_none z hq)]
  exact z
theorem same_new {H : Hp} {p : Addr} {o : HO} (h : H p = none) : Same H (upd H p o) := fun b u e => (upd_ne (ne_of_none e h)).trans e
theorem if01 (b : Bool) : (0 : Int) ≤ if b = true then 1 else 0 := by cases b <;> decide
theorem Pot.le {H : Hp} {p : Addr} {m n : Nat} (h : Pot H p n) (l : m ≤ n) : Pot H p m := by
  obtain ⟨o, s, c, a, b, d, e, f, g⟩ := h
  exact ⟨o, s, c, a, b, d, e, f, by omega⟩
theorem Pot.new {H : Hp} {p q : Addr} {n : Nat} {o : HO} (h : Pot H p n) (hq : H q = none) : Pot (upd H q o) p n := by
  obtain ⟨x, s, c, a, b⟩ := h
  exact ⟨x, s, c, (upd_ne (ne_of_none a hq)).trans a, b⟩
theorem Pot.ne {H : Hp} {p q : Addr} {n : Nat} (h : Pot H p n) (hq : H q = none) : p ≠ q := by
  obtain ⟨x, s, c, a, b⟩ := h
  exact ne_of_none a hq
def spTake : Sp := fun vs H Q _ => ∃ (p : Addr) (n : Nat) (u : Int), vs = [.ref p, .int u] ∧ Pot H p (n + 1) ∧ 0 < u ∧ u < 2 ^ 200 ∧
  ∀ (r : Int) (H' : Hp), 0 ≤ r → r < u → Kp p H H' → Pot H' p n → Q (.int r) H'
def spOf : Sp := fun vs H Q _ => ∃ (p a : Addr) (n : Nat) (xs : List V), vs = [.ref p, .ref a] ∧ Pot H p (n + 1) ∧ a ≠ p ∧ H a = some (.lst xs) ∧ 0 < xs.length ∧ xs.length ≤ 1000 ∧
  ∀ (v : V) (H' : Hp), v ∈ xs → Kp p H H' → Pot H' p n → Q v H'
def spPotOf (K : PySem.W.Frag) : Sp := fun vs H Q _ => ∃ (a : Addr) (ns : List Int) (k : Int), vs = [.ref a, .int k] ∧ SqL K H a (ns.map V.int) ∧ ns.length ≤ 1000 ∧ 0 ≤ k ∧ k ≤ 2 ∧
  ∀ (p : Addr) (H' : Hp), H p = none → Same H H' → Pot H' p 100000 → Q (.ref p) H'
/-- a def that stands in the module under its name, with its promise -/
def Cal (P : Program) (w : World) (K : PySem.W.Frag) (mg : Str → Option Value) (base : Heap) (k : Nat) (x : Str) (ps : List Str) (sp : Sp) : Prop :=
  ∃ (f : Addr) (fd : FuncData), FnOk P w K mg base CX0 k f fd ps sp ∧ Binds K fd ps [] ∧ mg x = some (.ref f) ∧ PySem.W.keepIn K (.ref f) = true
def CalG (P : Program) (w : World) (K : PySem.W.Frag) (mg : Str → Option Value) (base : Heap) (k : Nat) (x : Str) (ps : List Str) (sp : Sp) : Prop :=
  ∃ (f : Addr) (fd : FuncData), FnG P w K mg base CX0 k f fd ps sp ∧ Binds K fd ps [] ∧ mg x = some (.ref f) ∧ PySem.W.keepIn K (.ref f) = true
theorem hu70 {k : Nat} {A : Around} (r : Room k A) : A.units + 70 < cLine := by
  have := r.un
  omega
structure Txt (mg : Str → Option Value) : Prop where
  n_int : mg "int" = none
  n_len : mg "len" = none
  n_abs : mg "abs" = none
  n_bool : mg "bool" = none
  n_tuple : mg "tuple" = none
  n_isinstance : mg "isinstance" = none
  n_range : mg "range" = none
  n_max : mg "max" = none
  n_min : mg "min" = none
  n_all : mg "all" = none
  n_repr : mg "repr" = none
section
variable {P : Program} {w : World} {K : PySem.W.Frag} {mg : Str → Option Value} {base : Heap}
theorem ok_take {f : Addr} {fd : FuncData} (F : Fun K "_law_take" "_law_take" s__law_take f fd) (T : Txt mg) : FnOk P w K mg base CX0 1 f fd P__law_take spTake := by
  refine F.ok sc__law_take (fun vs H Q E h => ?_) (fun cdv A outer s H vs Q E hr h => ?_)
  · obtain ⟨p, n, u, rfl, _⟩ := h
    rfl
  · obtain ⟨p, n, u, rfl, ⟨o, z, c, hp, o0, z0, z1, c0, c1⟩, u0, u1, k⟩ := h
    refine ⟨_, (pss_cons (ps_if (pt_cmpR op_gt (pe_ix ix_list (pv 0) pe_int (fun _ _ => rfl)) pe_int (nomark _)) (pss_cons (ps_set (i := 2) sc__law_take.nd rfl (Or.inl rfl) (pe_op op_mod (pe_callTy call_int1 (by rfl) T.n_int (by decide +kernel) (pa_cons (pe_ix ix_list (pv 0) pe_int (fun _ _ => rfl)) pa_nil)) (pv 1)))
      (pss_cons (ps_asg (pe_op op_fdivW (pe_ix ix_list (pv 0) pe_int (fun _ _ => rfl)) (pv 1)) (pg_sub (pv 0) pe_int set_list))
      (pss_one (ps_ret (pv 2))))) pss_nil)
      (pss_cons (ps_asg (pe_op op_add (pe_ix ix_list (pv 0) pe_int (fun _ _ => rfl)) pe_int) (pg_sub (pv 0) pe_int set_list))
      (pss_cons (ps_set (i := 3) sc__law_take.nd rfl (Or.inl rfl) (pe_ix ix_list (pe_lst (pa_cons pe_int (pa_cons pe_int (pa_cons pe_int (pa_cons pe_int (pa_cons pe_int pa_nil)))))) (pe_op op_mod (pe_callTy call_int1 (by rfl) T.n_int (by decide +kernel) (pa_cons (pe_ix ix_list (pv 0) pe_int (fun _ _ => rfl)) pa_nil)) pe_int) (fun _ _ => rfl)))
      (pss_cons (ps_set (i := 4) sc__law_take.nd rfl (Or.inl rfl) (pe_op op_mod (pe_op op_pow (pe_callTy call_int1 (by rfl) T.n_int (by decide +kernel) (pa_cons (pe_op op_add (pe_op op_add (pe_ix ix_list (pv 0) pe_int (fun _ _ => rfl)) (pe_op op_mul (pe_op op_mul pe_int (pe_ix ix_list (pv 0) pe_int (fun _ _ => rfl))) (pe_ix ix_list (pv 0) pe_int (fun _ _ => rfl)))) pe_int) pa_nil)) pe_int) (pv 3)))
      (pss_cons (ps_set (i := 4) sc__law_take.nd rfl (Or.inl rfl) (pe_op op_mod (pe_callTy call_int1 (by rfl) T.n_int (by decide +kernel) (pa_cons (pe_op op_mul (pv 4) (pe_op op_add (pe_op op_mod (pe_callTy call_int1 (by rfl) T.n_int (by decide +kernel) (pa_cons (pv 4) pa_nil)) pe_int) (pe_op op_mul pe_int (pe_ix ix_list (pv 0) pe_int (fun _ _ => rfl))))) pa_nil)) pe_int))
      (pss_one (ps_ret (pe_op op_mod (pe_op op_fdivW (pv 4) pe_int) (pv 1))))))))), ?_⟩
    fail "z go"
    refine rd_ite (fun h => ?_) (fun h => ?_)
    · fail "z go"
      exact k _ _ (Int.emod_nonneg _ (by omega)) (Int.emod_lt_of_pos _ u0) Kp.refl.put ⟨_, _, _, upd_same, Int.ediv_nonneg o0 (by omega), z0, z1, c0, by omega⟩
    · fail "z go"
      intro q hq
      have npq : p ≠ q := ne_of_none upd_same hq
      fail "z go"
      refine rd_ixLr upd_same (Int.emod_nonneg _ (by decide)) (Int.emod_lt_of_pos _ (by decide)) fun m hm => ?_
      obtain ⟨m, rfl, m0, m1⟩ : ∃ i : Int, m = .int i ∧ 2147483563 ≤ i ∧ i ≤ 2147483647 := by
        simp only [List.mem_cons, List.not_mem_nil, or_false] at hm
        rcases hm with rfl | rfl | rfl | rfl | rfl <;> exact ⟨_, rfl, by decide, by decide⟩
      have sq0 : 0 ≤ (c + 1) * (c + 1) := Int.mul_nonneg (by omega) (by omega)
      have sq1 : (c + 1) * (c + 1) ≤ 100000 * 100000 := Int.mul_le_mul (by omega) (by omega) (by omega) (by decide)
      have sq2 : 60089 * (c + 1) * (c + 1) = 60089 * ((c + 1) * (c + 1)) := Int.mul_assoc _ _ _
      fail "z go"
      refine k _ _ (Int.emod_nonneg _ (by omega)) (Int.emod_lt_of_pos _ u0) (Kp.refl.put.new hq) ⟨_, _, _, (upd_ne npq).trans upd_same, o0, z0, z1, by omega, by omega⟩
theorem ok_of {f : Addr} {fd : FuncData} (F : Fun K "_law_of" "_law_of" s__law_of f fd) (T : Txt mg) (c_take : Cal P w K mg base 1 "_law_take" P__law_take spTake) :
    FnOk P w K mg base CX0 2 f fd P__law_of spOf := by
  obtain ⟨f_take, fd_take, G__law_take, b__law_take, g__law_take, k__law_take⟩ := c_take
  refine F.ok sc__law_of (fun vs H Q E h => ?_) (fun cdv A outer s H vs Q E hr h => ?_)
  · obtain ⟨p, a, n, xs, rfl, _⟩ := h
    rfl
  · obtain ⟨p, a, n, xs, rfl, hp, nap, ha, l0, l1, k⟩ := h
    refine ⟨_, (pss_one (ps_ret (pe_ix ix_list (pv 1) (pe_call G__law_take (hr.mono (by decide)) rfl g__law_take k__law_take b__law_take .nil pass0 (pa_cons (pv 0) (pa_cons (pe_callB call_len_seq (by rfl) T.n_len (by decide +kernel) (pa_cons (pv 1) pa_nil)) pa_nil))) (fun _ _ => rfl)))), ?_⟩
    fail "z go"
    refine ⟨p, n, _, rfl, hp, by omega, by omega, fun r H' r0 r1 kp pt => ?_⟩
    exact rd_ixLr (kp a _ nap ha) r0 r1 fun v hv => k v H' hv kp pt
theorem ok_pot_of {f : Addr} {fd : FuncData} (F : Fun K "_law_pot_of" "_law_pot_of" s__law_pot_of f fd) (T : Txt mg) : FnOk P w K mg base CX0 1 f fd P__law_pot_of (spPotOf K) := by
  refine F.ok sc__law_pot_of (fun vs H Q E h => ?_) (fun cdv A outer s H vs Q E hr h => ?_)
  · obtain ⟨a, ns, x, rfl, _⟩ := h
    rfl
  · obtain ⟨a, ns, x, rfl, hS, few, x0, x1, k⟩ := h
    refine ⟨_, (pss_cons (ps_set (i := 2) sc__law_pot_of.nd rfl (Or.inl rfl) (pe_ifExp (pt_cmpR op_lt (pv 1) (pe_callB call_len_seq (by rfl) T.n_len (by decide +kernel) (pa_cons (pv 0) pa_nil)) (nomark _)) (pe_ix ix_list (pv 0) (pv 1) (fun _ _ => rfl)) (pe_op op_add (pe_op op_mul pe_int (pv 1)) pe_int)))
      (pss_cons (ps_set (i := 3) sc__law_pot_of.nd rfl (Or.inl rfl) (pe_op op_mul (pe_op op_mod (pe_callTy call_int1 (by rfl) T.n_int (by decide +kernel) (pa_cons (pe_callB call_abs (by rfl) T.n_abs (by decide +kernel) (pa_cons (pv 2) pa_nil)) pa_nil)) (pe_op op_powZ (pe_op op_pow pe_int pe_int) pe_int)) (pe_callTy call_int1 (by rfl) T.n_int (by decide +kernel) (pa_cons (pe_cmpR op_ge (pe_callB call_abs (by rfl) T.n_abs (by decide +kernel) (pa_cons (pv 2) pa_nil)) (pe_op op_pow pe_int pe_int) (nomark _)) pa_nil))))
      (pss_one (ps_ret (pe_lst (pa_cons (pv 3) (pa_cons (pe_op op_mod (pe_op op_add (pe_op op_add (pe_op op_mul (pe_op op_mod (pe_callTy call_int1 (by rfl) T.n_int (by decide +kernel) (pa_cons (pv 2) pa_nil)) pe_int) pe_int) (pe_op op_mul (pe_op op_mul pe_int (pv 1)) (pv 1))) pe_int) pe_int) (pa_cons pe_int pa_nil)))))))), ?_⟩
    fail "z go"
    refine rd_lenLs hS ?_
    fail "z go"
    refine rd_ite (fun h => ?_) (fun h => ?_)
    · fail "z go"
      refine rd_ixLsr hS x0 h fun v hv => ?_
      obtain ⟨c, _, rfl⟩ := List.mem_map.mp hv
      fail "z go"
      refine rd_I (show CPowZ _ _ from ⟨by decide, by decide +kernel⟩) ?_
      fail "z go"
      refine rd_I (by decide +kernel) ?_
      fail "z go"
      intro p hp
      refine k p _ hp (same_new hp) ⟨_, _, _, upd_same, Int.mul_nonneg (Int.emod_nonneg _ (by decide +kernel)) (if01 _), Int.emod_nonneg _ (by decide), Int.emod_lt_of_pos _ (by decide), by decide, by decide⟩
    · fail "z go"
      refine rd_I (show CPowZ _ _ from ⟨by decide, by decide +kernel⟩) ?_
      fail "z go"
      refine rd_I (by decide +kernel) ?_
      fail "z go"
      intro p hp
      refine k p _ hp (same_new hp) ⟨_, _, _, upd_same, Int.mul_nonneg (Int.emod_nonneg _ (by decide +kernel)) (if01 _), Int.emod_nonneg _ (by decide), Int.emod_lt_of_pos _ (by decide), by decide, by decide⟩
/-! ### integers and kinds -/
abbrev s_is_integer : Stmt := (top 5)
abbrev N_is_integer : List Str := ["value"]
abbrev P_is_integer : List Str := ["value"]
theorem sc_is_integer : FnScope N_is_integer P_is_integer (defScope s_is_integer) := ⟨rfl, rfl, rfl, by decide +kernel, rfl, by decide +kernel, by decide +kernel⟩
abbrev s_Kind___init__ : Stmt := (inClass (top 31) 0)
abbrev N_Kind___init__ : List Str := ["self", "low", "high"]
abbrev P_Kind___init__ : List Str := ["self", "low", "high"]
theorem sc_Kind___init__ : FnScope N_Kind___init__ P_Kind___init__ (defScope s_Kind___init__) := ⟨rfl, rfl, rfl, by decide +kernel, rfl, by decide +kernel, by decide +kernel⟩

/-- a plain value: none, a bool, an int, a text, a list, a tuple, a dict -/
inductive Plain (H : Hp) : V → Prop where
  | non : Plain H .non
  | bl (b : Bool) : Plain H (.bl b)
  | int (i : Int) : Plain H (.int i)
  | str (x : Str) : Plain H (.str x)
  | lst {a : Addr} {xs : List V} (e : H a = some (.lst xs)) : Plain H (.ref a)
  | tup {a : Addr} {xs : List V} (e : H a = some (.tup xs)) : Plain H (.ref a)
  | dK {a : Addr} {kvs : List (Key × V)} (e : H a = some (.dK kvs)) : Plain H (.ref a)
def isI : V → Bool
  | .int _ => true
  | _ => false
/-- isinstance of a plain value and a built-in class -/
theorem rd_isi {K : PySem.W.Frag} {H : Hp} {Q : VK} {v : V} {t n : String} {b : Bool} (ty : TyX K H v (.type t)) (e : kitB t n = some b) (k : Q (.bl b) H) : rIsi K [v, .ty n] H Q :=
  ⟨v, .ty n, _, _, b, rfl, .ty n, ty, kit_ty e, k⟩
theorem rd_isiP {K : PySem.W.Frag} {H : Hp} {Q : VK} {v : V} (p : Plain H v) (k1 : ∀ b : Bool, (b = true → isI v = true ∨ ∃ c, v = .bl c) → (isI v = true → b = true) → (∀ c, v = .bl c → b = true) → Q (.bl b) H) : rIsi K [v, .ty "int"] H Q := by
  cases p with
  | non => exact rd_isi (.base .non) (by decide +kernel) (k1 false (fun z => nomatch z) (fun z => nomatch z) fun c z => nomatch z)
  | bl b => exact rd_isi (.base (.bl b)) (by decide +kernel) (k1 true (fun _ => .inr ⟨b, rfl⟩) (fun _ => rfl) fun _ _ => rfl)
  | int i => exact rd_isi (.base (.int i)) (by decide +kernel) (k1 true (fun _ => .inl rfl) (fun _ => rfl) fun _ _ => rfl)
  | str x => exact rd_isi (.base (.str x)) (by decide +kernel) (k1 false (fun z => nomatch z) (fun z => nomatch z) fun c z => nomatch z)
  | lst e => exact rd_isi (.base (.lst e)) (by decide +kernel) (k1 false (fun z => nomatch z) (fun z => nomatch z) fun c z => nomatch z)
  | tup e => exact rd_isi (.base (.tup e)) (by decide +kernel) (k1 false (fun z => nomatch z) (fun z => nomatch z) fun c z => nomatch z)
  | dK e => exact rd_isi (.base (.dK e)) (by decide +kernel) (k1 false (fun z => nomatch z) (fun z => nomatch z) fun c z => nomatch z)
theorem rd_isiB {K : PySem.W.Frag} {H : Hp} {Q : VK} {v : V} (p : Plain H v) (k1 : ∀ b : Bool, (b = true ↔ ∃ c, v = .bl c) → Q (.bl b) H) : rIsi K [v, .ty "bool"] H Q := by
  cases p with
  | non => exact rd_isi (.base .non) (by decide +kernel) (k1 false ⟨fun z => Bool.noConfusion z, fun ⟨c, z⟩ => V.noConfusion z⟩)
  | bl b => exact rd_isi (.base (.bl b)) (by decide +kernel) (k1 true ⟨fun _ => ⟨b, rfl⟩, fun _ => rfl⟩)
  | int i => exact rd_isi (.base (.int i)) (by decide +kernel) (k1 false ⟨fun z => Bool.noConfusion z, fun ⟨c, z⟩ => V.noConfusion z⟩)
  | str x => exact rd_isi (.base (.str x)) (by decide +kernel) (k1 false ⟨fun z => Bool.noConfusion z, fun ⟨c, z⟩ => V.noConfusion z⟩)
  | lst e => exact rd_isi (.base (.lst e)) (by decide +kernel) (k1 false ⟨fun z => Bool.noConfusion z, fun ⟨c, z⟩ => V.noConfusion z⟩)
  | tup e => exact rd_isi (.base (.tup e)) (by decide +kernel) (k1 false ⟨fun z => Bool.noConfusion z, fun ⟨c, z⟩ => V.noConfusion z⟩)
  | dK e => exact rd_isi (.base (.dK e)) (by decide +kernel) (k1 false ⟨fun z => Bool.noConfusion z, fun ⟨c, z⟩ => V.noConfusion z⟩)
def spIsInt : Sp := fun vs H Q _ => ∃ v, vs = [v] ∧ Plain H v ∧ Q (.bl (isI v)) H
theorem ok_is_integer {f : Addr} {fd : FuncData} (F : Fun K "is_integer" "is_integer" s_is_integer f fd) (T : Txt mg) : FnOk P w K mg base CX0 1 f fd P_is_integer spIsInt := by
  refine F.ok sc_is_integer (fun vs H Q E h => ?_) (fun cdv A outer s H vs Q E hr h => ?_)
  · obtain ⟨v, rfl, _⟩ := h
    rfl
  · obtain ⟨v, rfl, p, k⟩ := h
    refine ⟨_, (pss_one (ps_ret (pe_and (pe_callB call_isi (by rfl) T.n_isinstance (by decide +kernel) (pa_cons (pv 0) (pa_cons (pe_bltn (v := .ty "int") (by rfl) T.n_int (by decide +kernel) rfl) pa_nil))) (pe_one (pe_not (pe_callB call_isi (by rfl) T.n_isinstance (by decide +kernel) (pa_cons (pv 0) (pa_cons (pe_bltn (v := .ty "bool") (by rfl) T.n_bool (by decide +kernel) rfl) pa_nil)))))))), ?_⟩
    fail "z go"
    refine rd_isiP p fun b h1 h2 h3 => ?_
    fail "z go"
    refine rd_iteB (fun hb => ?_) (fun hb => ?_)
    · fail "z go"
      refine rd_isiB p fun c hc => ?_
      fail "z go"
      show Q (.bl (!c)) H
      have e : (!c) = isI v := by
        rcases h1 hb with z | z
        · rw [z]
          cases c with
          | false => rfl
          | true =>
            obtain ⟨d, rfl⟩ := hc.mp rfl
            cases z
        · rw [hc.mpr z]
          obtain ⟨d, rfl⟩ := z
          rfl
      rw [e]
      exact k
    · show Q (.bl false) H
      have e : isI v = false := by
        cases q : isI v with
        | false => rfl
        | true =>
          rw [h2 q] at hb
          cases hb
      rw [← e]
      exact k
/-- the fields of a kind -/
def kf (lo hi : Int) : List (Str × V) := putF "size" (.int (hi - lo + 1)) (putF "high" (.int hi) (putF "low" (.int lo) []))
theorem kf_low (lo hi : Int) : (kf lo hi).lookup ("low" : Str) = some (.int lo) := by
  unfold kf
  rw [lookup_putF, if_neg (by decide +kernel), lookup_putF, if_neg (by decide +kernel), lookup_putF, if_pos rfl]
theorem kf_high (lo hi : Int) : (kf lo hi).lookup ("high" : Str) = some (.int hi) := by
  unfold kf
  rw [lookup_putF, if_neg (by decide +kernel), lookup_putF, if_pos rfl]
theorem kf_size (lo hi : Int) : (kf lo hi).lookup ("size" : Str) = some (.int (hi - lo + 1)) := by
  unfold kf
  rw [lookup_putF, if_pos rfl]
structure KindT (K : PySem.W.Frag) (C : Addr) : Prop where
  cl : Cls K C
  n_low : NoAttr K C "low"
  n_high : NoAttr K C "high"
  n_size : NoAttr K C "size"
def IsKind (C : Addr) (H : Hp) (a : Addr) (lo hi : Int) : Prop := ∃ dx, H a = some (.ins C dx (kf lo hi))
theorem IsKind.same {C a : Addr} {H H' : Hp} {lo hi : Int} (h : IsKind C H a lo hi) (s : Same H H') : IsKind C H' a lo hi := by
  obtain ⟨dx, e⟩ := h
  exact ⟨dx, s _ _ e⟩
def spKind (C : Addr) : Sp := fun vs H Q _ => ∃ (p dx : Addr) (lo hi : Int), vs = [.ref p, .int lo, .int hi] ∧ lo ≤ 0 ∧ 0 ≤ hi ∧ H p = some (.ins C dx []) ∧
  ∀ H' : Hp, Kp p H H' → H' p = some (.ins C dx (kf lo hi)) → Q .non H'
def CalK (P : Program) (w : World) (K : PySem.W.Frag) (mg : Str → Option Value) (base : Heap) (C : Addr) : Prop :=
  ∃ (f : Addr) (fd : FuncData), Mk K C f ∧ FnOk P w K mg base CX0 2 f fd P_Kind___init__ (spKind C) ∧ Binds K fd P_Kind___init__ [] ∧ mg "Kind" = some (.ref C)
theorem ok_Kind {f C : Addr} {fd : FuncData} (F : Fun K "__init__" "Kind.__init__" s_Kind___init__ f fd) (KT : KindT K C) (c_is : Cal P w K mg base 1 "is_integer" P_is_integer spIsInt) :
    FnOk P w K mg base CX0 2 f fd P_Kind___init__ (spKind C) := by
  obtain ⟨f_is, fd_is, G_is_integer, b_is_integer, g_is_integer, k_is_integer⟩ := c_is
  refine F.ok sc_Kind___init__ (fun vs H Q E h => ?_) (fun cdv A outer s H vs Q E hr h => ?_)
  · obtain ⟨p, dx, lo, hi, rfl, _⟩ := h
    rfl
  · obtain ⟨p, dx, lo, hi, rfl, h1, h2, hp, k⟩ := h
    refine ⟨_, (pss_cons (ps_if (PW.pt (pw_or (pt_not (pt_val (pe_call G_is_integer (hr.mono (by decide)) rfl g_is_integer k_is_integer b_is_integer .nil pass0 (pa_cons (pv 1) pa_nil)))) (pw_or (pt_not (pt_val (pe_call G_is_integer (hr.mono (by decide)) rfl g_is_integer k_is_integer b_is_integer .nil pass0 (pa_cons (pv 2) pa_nil)))) (pw_or1 (pt_not (pt_chain op_le op_le (pv 1) pe_int (pv 2))))))) (pss_one ps_never) pss_nil)
      (pss_cons (ps_fld (pv 0) (pv 1) rfl)
      (pss_cons (ps_fld (pv 0) (pv 2) rfl)
      (pss_one (ps_fld (pv 0) (pe_op op_add (pe_op op_sub (pv 2) (pv 1)) pe_int) rfl))))), ?_⟩
    fail "z go"
    refine ⟨_, rfl, .int lo, ?_⟩
    fail "z go"
    refine iteF ?_
    fail "z go"
    refine ⟨_, rfl, .int hi, ?_⟩
    fail "z go"
    refine iteF ?_
    fail "z go"
    rw [decide_eq_true h1]
    refine iteT ?_
    fail "z go"
    rw [decide_eq_true h2]
    refine iteF ?_
    fail "z go"
    refine rd_sfldI hp KT.cl KT.n_low (by decide) ?_
    fail "z go"
    have l1 := length_putF "low" (.int lo) []
    refine rd_sfldI upd_same KT.cl KT.n_high (by show _ < 1000; simp only [List.length_nil] at l1; omega) ?_
    fail "z go"
    have l2 := length_putF "high" (.int hi) (putF "low" (.int lo) [])
    refine rd_sfldI upd_same KT.cl KT.n_size (by show _ < 1000; simp only [List.length_nil] at l1; omega) ?_
    exact k _ Kp.refl.put.put.put upd_same
/-- Kind(low, high) where it is called: a new kind, all else as it was -/
theorem rd_Kind {C : Addr} {H : Hp} {E : XK} {lo hi : Int} {R : Addr → Hp → Prop} (h1 : lo ≤ 0) (h2 : 0 ≤ hi) (k : ∀ (a : Addr) (H' : Hp), H a = none → Same H H' → IsKind C H' a lo hi → R a H') :
    ∀ x dx, H x = none → H dx = none → dx ≠ x → spKind C (.ref x :: ([V.int lo, V.int hi] ++ [])) (upd (upd H dx (.own x)) x (.ins C dx [])) (fun v H2 => v = .non ∧ R x H2) E := by
  intro x dx nx nd ne
  refine ⟨x, dx, lo, hi, rfl, h1, h2, upd_same, fun H' kp hx => ⟨rfl, k x H' nx (fun b o e => ?_) ⟨dx, hx⟩⟩⟩
  have n1 : b ≠ x := ne_of_none e nx
  exact kp b o n1 ((upd_ne n1).trans ((upd_ne (ne_of_none e nd)).trans e))
end
/-! ### small data, its text -/
structure Sm (k n : Nat) (d : PyData) : Prop where
  sh : d.showable = true
  nd : d.hasDict = false
  cl : d.canLay0 = true
  ls : d.leavesShort 250 = true
  wt : d.weight ≤ n
  dp : d.depth ≤ k
structure SmAll (k n : Nat) (ds : List PyData) : Prop where
  sh : PyData.showableAll ds = true
  nd : PyData.hasDictAll ds = false
  cl : PyData.canLayAll0 ds = true
  ls : PyData.leavesShortAll 250 ds = true
  wt : PyData.weightAll ds ≤ n
  dp : PyData.depthAll ds ≤ k
theorem sm_none {k : Nat} : Sm k 0 .none := ⟨by simp [PyData.showable], by simp [PyData.hasDict], by simp [PyData.canLay0], by simp [PyData.leavesShort], by simp [PyData.weight], by simp [PyData.depth]⟩
theorem sm_bool {k : Nat} (b : Bool) : Sm k 0 (.bool b) := ⟨by simp [PyData.showable], by simp [PyData.hasDict], by simp [PyData.canLay0], by simp [PyData.leavesShort], by simp [PyData.weight], by simp [PyData.depth]⟩
theorem log_of {i : Int} (h1 : -(2 ^ 200) < i) (h2 : i < 2 ^ 200) : i.natAbs.log2 < 200 := PySem.Flt.log2_lt_of (by decide) (by omega)
theorem sm_int {k : Nat} {i : Int} (h1 : -(2 ^ 200) < i) (h2 : i < 2 ^ 200) : Sm k 201 (.int i) := by
  have l := log_of h1 h2
  have t := int_text_length_le (k := 200) (by decide) l
  refine ⟨by simp only [PyData.showable, decide_eq_true_eq]; omega, by simp [PyData.hasDict], by simp [PyData.canLay0], ?_, ?_, by simp [PyData.depth]⟩
  · simp only [PyData.leavesShort, decide_eq_true_eq]
    show (Str.ofString (toString i)).length ≤ 250
    rw [PySem.ofString_length]
    omega
  · simp only [PyData.weight]
    split <;> omega
theorem sm_nil {k : Nat} : SmAll k 0 [] := ⟨by simp [PyData.showableAll], by simp [PyData.hasDictAll], by simp [PyData.canLayAll0], by simp [PyData.leavesShortAll], by simp [PyData.weightAll], by simp [PyData.depthAll]⟩
theorem sm_cons {k a b : Nat} {d : PyData} {ds : List PyData} (h : Sm k a d) (t : SmAll k b ds) : SmAll k (a + 1 + b) (d :: ds) := by
  refine ⟨by simp [PyData.showableAll, h.sh, t.sh], by simp [PyData.hasDictAll, h.nd, t.nd], by simp [PyData.canLayAll0, h.cl, t.cl], by simp [PyData.leavesShortAll, h.ls, t.ls], ?_, ?_⟩
  · have := h.wt
    have := t.wt
    simp only [PyData.weightAll]
    omega
  · have := h.dp
    have := t.dp
    simp only [PyData.depthAll]
    omega
theorem sm_list {k n : Nat} {ds : List PyData} (t : SmAll k n ds) : Sm (k + 1) n (.list ds) :=
  ⟨by simp [PyData.showable, t.sh], by simp [PyData.hasDict, t.nd], by simp [PyData.canLay0, t.cl], by simp [PyData.leavesShort, t.ls], by simp [PyData.weight, t.wt], by have := t.dp; simp only [PyData.depth]; omega⟩
theorem sm_tup {k n : Nat} {ds : List PyData} (t : SmAll k n ds) : Sm (k + 1) n (.tuple ds) :=
  ⟨by simp [PyData.showable, t.sh], by simp [PyData.hasDict, t.nd], by simp [PyData.canLay0, t.cl], by simp [PyData.leavesShort, t.ls], by simp [PyData.weight, t.wt], by have := t.dp; simp only [PyData.depth]; omega⟩
theorem Sm.text {k n : Nat} {d : PyData} (h : Sm k n d) (hn : n ≤ 50000) : d.shown.length ≤ sizeLine := by
  have e := PyData.shown_le 250 (by decide) d h.ls
  have w := h.wt
  rw [sizeLine_eq]
  omega
theorem Sm.shaped {k n : Nat} {d : PyData} (h : Sm k n d) (hk : k ≤ 60) : SeqAt.shaped d = true := by
  have := h.dp
  unfold SeqAt.shaped
  rw [h.cl, Bool.true_and]
  exact decide_eq_true (by omega)
theorem rd_repr {K : PySem.W.Frag} {H : Hp} {Q : VK} {v : V} {d : PyData} {k n : Nat} (h : Dp K H v d) (s : Sm k n d) (hk : k ≤ 60) (hn : n ≤ 50000) (q : Q (.str d.shown) H) : rReprD K [v] H Q := by
  refine ⟨v, d, rfl, h, s.sh, s.nd, by have := s.dp; omega, s.text hn, fun i e => ?_, q⟩
  subst e
  cases h
  have z := s.sh
  simp only [PyData.showable, decide_eq_true_eq] at z
  exact z
theorem rd_neD {K : PySem.W.Frag} {H : Hp} {Q : VK} {x y : V} {d e : PyData} {k n k' n' : Nat} (h : Dp K H x d) (h' : Dp K H y e) (s : Sm k n d) (s' : Sm k' n' e) (hk : k ≤ 60) (hk' : k' ≤ 60) (q : Q (.bl (!PyData.eqv d e)) H) : rNeD K x y H Q :=
  ⟨d, e, h, h', s.shaped hk, s'.shaped hk', q⟩
theorem rd_eqD {K : PySem.W.Frag} {H : Hp} {Q : VK} {x y : V} {d e : PyData} {k n k' n' : Nat} (h : Dp K H x d) (h' : Dp K H y e) (s : Sm k n d) (s' : Sm k' n' e) (hk : k ≤ 60) (hk' : k' ≤ 60) (q : Q (.bl (PyData.eqv d e)) H) : rEqD K x y H Q :=
  ⟨d, e, h, h', s.shaped hk, s'.shaped hk', q⟩
theorem Sm.up {k n k' n' : Nat} {d : PyData} (h : Sm k n d) (hk : k ≤ k') (hn : n ≤ n') : Sm k' n' d := ⟨h.sh, h.nd, h.cl, h.ls, Nat.le_trans h.wt hn, Nat.le_trans h.dp hk⟩
/-! ### a caught error that is kept behind its suite -/
section
variable {X : Cx} {pins : List (Addr × Obj)} {σ : L2.St} {H : Hp} {s : Shared}
/-- what is kept behind: the context with the error pinned -/
abbrev kept (X : Cx) (a : Addr) (oe : Obj) (pn : List (Addr × Obj)) : Cx := X.tr ((a, oe) :: pn) X.xe
theorem un_kept {a : Addr} {oe : Obj} {pn' : List (Addr × Obj)} (ok : X.Ok) (J : Inv (kept X a oe (X.pn ++ pins)) pn' σ H s) : Inv X pins σ H s where
  ok := ok
  os := J.os
  bare := J.bare
  base := J.base
  loc := J.loc
  cell := J.cell
  free := J.free
  freeC := J.freeC
  pin := fun q hq => J.pin q (List.mem_append.mpr (.inl (List.mem_cons.mpr (.inr hq))))
  hok := J.hok
  len := J.len
theorem kept_of {a : Addr} {oe : Obj} {pn pn' : List (Addr × Obj)} (ok : X.Ok) (J : Inv (X.suite a ((a, oe) :: pn)) pn' σ H s) : Inv (kept X a oe pn) pn' σ H s where
  ok := ok.toTry _ _
  os := J.os
  bare := J.bare
  base := J.base
  loc := J.loc
  cell := J.cell
  free := J.free
  freeC := J.freeC
  pin := J.pin
  hok := J.hok
  len := J.len
theorem sp_kept {a : Addr} {oe : Obj} {D : Ends} {fl : Flow} (ok : X.Ok) (h : SP (kept X a oe (X.pn ++ pins)) [] D fl s) : SP X pins D fl s := by
  match fl, h with
  | .next, ⟨σ', H', J, q⟩ => exact ⟨σ', H', un_kept ok J, q⟩
  | .brk, ⟨σ', H', J, q⟩ => exact ⟨σ', H', un_kept ok J, q⟩
  | .cont, ⟨σ', H', J, q⟩ => exact ⟨σ', H', un_kept ok J, q⟩
  | .ret _, ⟨v, σ', H', J, r, q⟩ => exact ⟨v, σ', H', un_kept ok J, r, q⟩
end
/-- what a try that keeps its error wishes of one that its body raises -/
def wKeep (K : PySem.W.Frag) (c : Value) (i : Nat) (ts tk : Addr → Value → Option Addr → TS) (D : Ends) : WX := fun cls d σ H =>
  PySem.W.exmOne K cls c = some true ∧ ∀ a, H a = none → ts a cls d { nx := fun σ' H' => tk a cls d D (σ'.set i none) H', rt := fun _ _ => False } (σ.set i (some (.ref a))) H
section
variable {X : Cx} {x n : Str} {c : Value} {i : Nat} {body suite rest : List Stmt} {b₀ : Stmt} {np pos pos' : Pos} {tb : WX → TS} {ts tk : Addr → Value → Option Addr → TS} {t0 : TS}
/-- try: body / except x as n: suite, and what stands behind, read in the light of the error that was caught -/
theorem pss_keep (hs : X.stack = X.env :: X.outer) (hf : X.env.frame = some X.env.locals) (hN : X.N.Nodup) (hi : X.N[i]? = some n) (hln : X.env.kindOf n = some .local) (hc : Names X x c)
    (hb : ∀ (W : WX) (pn : List (Addr × Obj)) (xe : Value → Shared → Prop), Takes (X.tr pn xe) W → PSs (X.tr pn xe) body (tb W))
    (hsu : ∀ (a : Addr) (oe : Obj) (cls : Value) (d : Option Addr) (pn : List (Addr × Obj)), Zc cls d oe → (∃ vs, oe.data = .fields vs) → PSs (X.suite a ((a, oe) :: pn)) (b₀ :: suite) (ts a cls d))
    (h0 : PSs X rest t0)
    (hk : ∀ (a : Addr) (oe : Obj) (cls : Value) (d : Option Addr) (pn : List (Addr × Obj)), Zc cls d oe → (∃ vs, oe.data = .fields vs) → PSs (kept X a oe pn) rest (tk a cls d)) :
    PSs X (.Try body [.ExceptHandler (some (.Name x np)) (some n) (b₀ :: suite) pos'] [] [] pos :: rest) (fun D σ H => tb (wKeep X.K c i ts tk D) { D with nx := t0 D } σ H) := by
  constructor
  intro pins s σ H D I h
  have ok := I.ok
  -- either as behind any statement, or with the error kept
  refine wpAny_execs_cons (thn (Q := fun fl s1 => SP X pins { D with nx := t0 D } fl s1 ∨ (fl = .next ∧ ∃ (a : Addr) (oe : Obj) (cls : Value) (d : Option Addr) (σ' : L2.St) (H' : Hp), Zc cls d oe ∧ (∃ vs, oe.data = .fields vs) ∧
    Inv (kept X a oe (X.pn ++ pins)) [] σ' H' s1 ∧ tk a cls d D σ' H')) ?_ fun fl s1 z => ?_)
  · have hfr : X.A.frames = some (X.env :: X.outer) := ok.frames.trans (congrArg some hs)
    refine wpAny_Try_except ?_
    refine wpAny_mono ((hb (wKeep X.K c i ts tk D) (X.pn ++ pins) _ (fun u s' xx => ?_)).run [] s σ H _ (I.toTry _) h) (fun fl s1 z => ?_) (fun e s1 he => he)
    · -- what the body raises is caught here
      obtain ⟨a, B, sI, pins', σ', H', cls, d, eu, J', nb, up, sky, na, os, ag, hyes, hgo⟩ := xx
      subst eu
      have J : Inv X pins σ' H' sI := J'.ofTry ok
      have air : Sky B (X.env :: X.outer) a (Zc cls d) X.env.locals s'.heap := hs ▸ sky
      refine Sky.land Zc.steady hfr hf air fun h1 fly1 up1 => ?_
      have J1 : Inv X pins σ' H' { s' with heap := h1 } := J.landed nb fly1.1 (up.trans up1) os ag
      obtain ⟨o1, v1, at1, z1, f1⟩ := fly1.there
      have off : a ∉ frs (X.env :: X.outer) := fun hm => by
        obtain ⟨_, o', e', no⟩ := fly1.2.2.1.mem hm
        rw [at1] at e'
        cases e'
        exact no _ f1
      have offL : a ≠ X.env.locals := fun z => off (List.mem_filterMap.mpr ⟨X.env, List.mem_cons_self, hf.trans (congrArg some z.symm)⟩)
      have offF : a ∉ X.fs := fun hm => by
        obtain ⟨e, m, q⟩ := List.mem_filterMap.mp hm
        exact off (List.mem_filterMap.mpr ⟨e, List.mem_cons_of_mem _ m, q⟩)
      have S1 := J1.suite at1 f1 na offL offF
      have cl : PySem.W.Looks (model X.prog X.w) h1 (typeOf (.ref a)) cls := fun A Q E s k q => wpAny_typeOf_ref (k _ _ at1) (z1.1.symm ▸ q)
      have fits := PySem.W.exm_one (M := model X.prog X.w) J1.kIn cl hyes
      have named : ∀ {Q : Value → Shared → Prop} {E : Value → Shared → Prop}, Q c { s' with heap := h1 } → wpAny (model X.prog X.w) (X.A.mark (some (.ref a))) (eval (.Name x np) X.env) Q E { s' with heap := h1 } := fun {Q E} q => by
        obtain ⟨g, nodb, m⟩ := hc
        rcases m with m | ⟨m, bt, nn⟩
        · exact ld_glob (X := X.suite a ((a, o1) :: (X.pn ++ pins))) S1 g m q nodb
        · exact ld_blt (X := X.suite a ((a, o1) :: (X.pn ++ pins))) S1 g m bt q nn nodb
      refine wpAny_handleBy_cons (codeAny_handlers_test (named (fits.here ?_))) (fun q => nomatch q)
      refine codeAny_handlers_suite_as (HandSPX.lands_againZ fly1 fun h2 fly2 up2 => ?_)
      obtain ⟨o2, v2, at2, z2, f2⟩ := fly2.there
      have S2 := (J.landed (s' := { s' with heap := h2 }) nb fly2.1 ((up.trans up1).trans up2) os ag).suite at2 f2 na offL offF
      refine store_ok (X := X.suite a ((a, o2) :: (X.pn ++ pins))) (v := .ref a) S2 hN hi (.inl hln) rfl (fun s3 S3 => ?_) (.inr hln)
      refine wpAny_mono ((hsu a o2 cls d (X.pn ++ pins) z2 ⟨_, f2⟩).run [] s3 _ H' _ S3 (hgo a na)) (fun fl s4 z => ?_) (fun _ _ z => False.elim z)
      match fl, z with
      | .next, ⟨σ4, H4, S4, q4⟩ => exact gone_ok (X := kept X a o2 (X.pn ++ pins)) (kept_of ok S4) hN hi hln fun s5 J5 => .inr ⟨rfl, a, o2, cls, d, _, _, z2, ⟨_, f2⟩, J5, q4⟩
      | .brk, ⟨_, _, _, q4⟩ => exact False.elim q4
      | .cont, ⟨_, _, _, q4⟩ => exact False.elim q4
      | .ret _, ⟨_, _, _, _, _, q4⟩ => exact False.elim q4
    · match fl, z with
      | .next, ⟨σ', H', J', q⟩ => exact wpAny_execs_nil (.inl ⟨σ', H', J'.ofTry ok, q⟩)
      | .brk, ⟨σ', H', J', q⟩ => exact .inl ⟨σ', H', J'.ofTry ok, q⟩
      | .cont, ⟨σ', H', J', q⟩ => exact .inl ⟨σ', H', J'.ofTry ok, q⟩
      | .ret _, ⟨v, σ', H', J', r, q⟩ => exact .inl ⟨v, σ', H', J'.ofTry ok, r, q⟩
  · rcases z with z | ⟨rfl, a, oe, cls, d, σ', H', zc, hd, J, q⟩
    · match fl, z with
      | .next, ⟨σ', H', J, q⟩ => exact h0.run pins s1 σ' H' D J q
      | .brk, z => exact z
      | .cont, z => exact z
      | .ret _, z => exact z
    · exact thn ((hk a oe cls d (X.pn ++ pins) zc hd).run [] s1 σ' H' D J q) fun fl s2 z => sp_kept ok z
end
/-- what an own exception class must have, so that isinstance and fields are read of its objects -/
structure ExcK (K : PySem.W.Frag) (C : Addr) : Prop where
  cl : (PySem.W.clsIn K C).isSome = true
  ga : PySem.W.findIn K (.ref C) "__getattribute__" = some (some (.builtin "BaseException.__getattribute__"))
  gg : PySem.W.findIn K (.ref C) "__getattr__" = some none
  su : PySem.W.subIn K (.ref C) (.type "BaseException") = some true
  ha : PySem.W.findIn K (.ref C) "__class__" = some (some (.builtin "object.__class__"))
  hn : PySem.W.specialIn K (.builtin "object.__class__") "__get__" = some (some (.builtin "getset_descriptor.__get__"))
  ht : PySem.W.takesIn K (.builtin "object.__class__") = some true
  hm : PySem.W.mroIn K C (.type "object") = some true
  hd : PySem.W.hasDictIn K C = true
section
variable {X : Cx} {a : Addr} {oe : Obj} {cls : Value} {d : Option Addr}
theorem held_at {pins : List (Addr × Obj)} {σ : L2.St} {H : Hp} {s : Shared} {C dd : Addr} {fs : List (Str × V)} (hp : (a, oe) ∈ X.pn) (hz : Zc cls d oe) (hf : ∃ vs, oe.data = .fields vs) (I : Inv X pins σ H s) (ec : cls = .ref C) (ed : d = some dd) (ea : H dd = some (.xd fs)) :
    ∃ (od : Obj) (mA : Str → Option Value), PySem.W.InstAt s.heap a oe C (some od) ∧ (∀ y, PySem.W.lookIn y od = some (mA y)) ∧ ∀ y, RelO (fs.lookup y) (mA y) := by
  subst ec
  subst ed
  obtain ⟨ha, _⟩ := I.pin (a, oe) (List.mem_append.mpr (.inl hp))
  obtain ⟨vs, hd⟩ := hf
  have z : ObjOk X.prog X.w H s.heap dd (.xd fs) := I.hok dd _ ea
  obtain ⟨mA, hns, hr⟩ := z
  obtain ⟨od, ho, hl⟩ := lookIn_ns hns
  refine ⟨od, mA, ⟨ha, hz.1, ?_, ?_⟩, hl, hr⟩
  · unfold PySem.W.notCls
    rw [hd]
  · rw [hz.2]
    exact ho
/-- isinstance(e, c), e the error that is kept -/
def rIsP (K : PySem.W.Frag) (a : Addr) (cls : Value) (d : Option Addr) : List V → Hp → VK → Prop := fun xs H Q =>
  ∃ (C dd : Addr) (fs : List (Str × V)) (c : V) (cv : Value) (b : Bool), xs = [.ref a, c] ∧ cls = .ref C ∧ ExcK K C ∧ d = some dd ∧ H dd = some (.xd fs) ∧ (∀ u, RelV c u → u = cv) ∧ PySem.W.kitOne K (.ref C) cv = some b ∧ Q (.bl b) H
theorem call_isP (hp : (a, oe) ∈ X.pn) (hz : Zc cls d oe) (hf : ∃ vs, oe.data = .fields vs) : CallR X (.builtin "isinstance") (rIsP X.K a cls d) := by
  intro pins s σ H xs us Q I r h
  obtain ⟨C, dd, fs, c, cv, b, rfl, ec, T, ed, ea, hcv, e, q⟩ := h
  cases r with
  | cons rx rr =>
    cases rr with
    | cons rt rr =>
      cases rr
      cases rx
      have ev := hcv _ rt
      subst ev
      obtain ⟨od, mA, J, _⟩ := held_at hp hz hf I ec ed ea
      exact PySem.W.kia_one (PySem.W.kitx_exc T.cl T.ga T.gg T.su T.ha T.hn T.ht T.hm) I.kIn J e (fun z => nomatch z) fun tk => ⟨.bl b, H, I.kept (t' := tk) fun _ _ z => z, rfl, q⟩
/-- e.f, e the error that is kept -/
def tXfP (K : PySem.W.Frag) (a : Addr) (cls : Value) (d : Option Addr) (f : Str) (te : TE) : TE := fun σ H Q => te σ H fun x H1 => x = .ref a ∧
  ∃ (C dd : Addr) (fs : List (Str × V)) (v : V), cls = .ref C ∧ ExcK K C ∧ PySem.W.findIn K (.ref C) f = some none ∧ d = some dd ∧ H1 dd = some (.xd fs) ∧ fs.lookup f = some v ∧ Q v H1
theorem pe_xfP {e : Expr} {te : TE} {pos : Pos} {n : Str} (hp : (a, oe) ∈ X.pn) (hz : Zc cls d oe) (hf : ∃ vs, oe.data = .fields vs) (he : PE X e te) (hb : attributeBase e n X.env (eval e X.env) = eval e X.env := by rfl) :
    PE X (.Attribute e n pos) (tXfP X.K a cls d n te) := by
  constructor
  intro pins s σ H Q I h
  refine attr_of hb (thn (he.run pins s σ H _ I h) fun u s1 hh => ?_)
  obtain ⟨x, H1, I1, rx, ex, C, dd, fs, v, ec, T, no, ed, ea, l, q⟩ := hh
  subst ex
  obtain rfl : u = Value.ref a := rx
  obtain ⟨od, mA, J, hl, hr⟩ := held_at hp hz hf I1 ec ed ea
  obtain ⟨u, hu, ru⟩ := RelO.some_of (v := v) (o := mA n) (by rw [← l]; exact hr n)
  exact HandSPX.exc_get I1.kIn J T.ga T.gg T.su (PySem.W.findObj_own T.hd no rfl ((hl n).trans (congrArg some hu))) (handed_of ru) ⟨v, H1, I1.tok _, ru, q⟩
end
section
variable {P : Program} {w : World} {K : PySem.W.Frag} {mg : Str → Option Value} {base : Heap}
/-! ### the comparisons of kinds, their meet and join -/
abbrev s_Kind___eq__ : Stmt := (inClass (top 31) 7)
abbrev N_Kind___eq__ : List Str := ["self", "other"]
abbrev P_Kind___eq__ : List Str := ["self", "other"]
theorem sc_Kind___eq__ : FnScope N_Kind___eq__ P_Kind___eq__ (defScope s_Kind___eq__) := ⟨rfl, rfl, rfl, by decide +kernel, rfl, by decide +kernel, by decide +kernel⟩
abbrev s_Kind___le__ : Stmt := (inClass (top 31) 8)
abbrev N_Kind___le__ : List Str := ["self", "other"]
abbrev P_Kind___le__ : List Str := ["self", "other"]
theorem sc_Kind___le__ : FnScope N_Kind___le__ P_Kind___le__ (defScope s_Kind___le__) := ⟨rfl, rfl, rfl, by decide +kernel, rfl, by decide +kernel, by decide +kernel⟩
abbrev s_Kind___lt__ : Stmt := (inClass (top 31) 9)
abbrev N_Kind___lt__ : List Str := ["self", "other"]
abbrev P_Kind___lt__ : List Str := ["self", "other"]
theorem sc_Kind___lt__ : FnScope N_Kind___lt__ P_Kind___lt__ (defScope s_Kind___lt__) := ⟨rfl, rfl, rfl, by decide +kernel, rfl, by decide +kernel, by decide +kernel⟩

structure KindO (K : PySem.W.Frag) (C : Addr) : Prop where
  ic : C8.InsC K C
  sf : PySem.W.selfFirst K C = true
  ne : PySem.W.findIn K (.ref C) "__ne__" = some (some (.builtin "object.__ne__"))
theorem lt_units {n : Nat} (h : n + 64 < cLine) : n + 1 < cLine := by omega
theorem rd_isOwn {K : PySem.W.Frag} {H : Hp} {Q : VK} {C a : Addr} {lo hi : Int} (o : KindO K C) (h : IsKind C H a lo hi) (k : Q (.bl true) H) : rIsi K [.ref a, .ref C] H Q := by
  obtain ⟨dx, e⟩ := h
  exact ⟨.ref a, .ref C, _, _, true, rfl, .own C, .base (.ins e o.ic.cl o.ic.ha o.ic.hn o.ic.htk o.ic.hm), o.ic.me, k⟩
theorem rd_own {C a b : Addr} {sp : Sp} {E : XK} {H : Hp} {Q : VK} {lo hi lo2 hi2 : Int} (h : IsKind C H a lo hi) (h2 : IsKind C H b lo2 hi2) (k : sp [.ref a, .ref b] H Q E) : rOwnI C sp E (.ref a) (.ref b) H Q := by
  obtain ⟨dx, e⟩ := h
  obtain ⟨dy, e2⟩ := h2
  exact ⟨a, dx, _, b, dy, _, rfl, rfl, e, e2, k⟩
theorem rd_ownNe {C a b : Addr} {sp : Sp} {E : XK} {H : Hp} {Q : VK} {lo hi lo2 hi2 : Int} (h : IsKind C H a lo hi) (h2 : IsKind C H b lo2 hi2) (k : sp [.ref a, .ref b] H (fun z H' => ∃ c, z = .bl c ∧ Q (.bl (!c)) H') E) : rNeI C sp E (.ref a) (.ref b) H Q := by
  obtain ⟨dx, e⟩ := h
  obtain ⟨dy, e2⟩ := h2
  exact ⟨a, dx, _, b, dy, _, rfl, rfl, e, e2, k⟩
theorem rd_both {c d : Bool} {σ : L2.St} {H : Hp} {Q : VK} {tb : TE} (h : ∀ Q' : VK, Q' (.bl d) H → tb σ H Q') (k : Q (.bl (c && d)) H) : if c = true then tb σ H Q else Q (.bl false) H := by
  cases c with
  | true => exact iteT (h Q k)
  | false => exact iteF k
theorem dec_int {a b : Int} : decide (V.int a = V.int b) = decide (a = b) := by
  by_cases q : a = b
  · rw [q]
    simp
  · rw [decide_eq_false q, decide_eq_false fun z => q (V.int.inj z)]
def CalN (P : Program) (w : World) (K : PySem.W.Frag) (mg : Str → Option Value) (base : Heap) (C : Addr) (k : Nat) (m : Str) (ps : List Str) (sp : Sp) : Prop :=
  ∃ (f : Addr) (fd : FuncData), Meth K C m f ∧ FnOk P w K mg base CX0 k f fd ps sp ∧ Binds K fd ps []
def leB (a b c d : Int) : Bool := decide (c ≤ a) && decide (b ≤ d)
def eqB (a b c d : Int) : Bool := decide (a = c) && decide (b = d)
def spCmp (C : Addr) (R : Int → Int → Int → Int → Bool) : Sp := fun vs H Q _ => ∃ (p q : Addr) (a b c d : Int), vs = [.ref p, .ref q] ∧ IsKind C H p a b ∧ IsKind C H q c d ∧ Q (.bl (R a b c d)) H
theorem ok_eq {f C : Addr} {fd : FuncData} (F : Fun K "__eq__" "Kind.__eq__" s_Kind___eq__ f fd) (T : Txt mg) (KT : KindT K C) (KO : KindO K C) (g_Kind : mg "Kind" = some (.ref C)) : FnOk P w K mg base CX0 1 f fd P_Kind___eq__ (spCmp C eqB) := by
  refine F.ok sc_Kind___eq__ (fun vs H Q E h => ?_) (fun cdv A outer s H vs Q E hr h => ?_)
  · obtain ⟨p, q, a, b, c, d, rfl, _⟩ := h
    rfl
  · obtain ⟨p, q, a, b, c, d, rfl, hp, hq, k⟩ := h
    obtain ⟨dx, ep⟩ := id hp
    obtain ⟨dy, eq⟩ := id hq
    refine ⟨_, (pss_one (ps_ret (pe_and (pe_callB call_isi (by rfl) T.n_isinstance (by decide +kernel) (pa_cons (pv 1) (pa_cons (pe_glob (v := .ref C) rfl g_Kind rfl) pa_nil))) (pe_and (pe_cmpR op_eq (pe_fld (pv 0) rfl) (pe_fld (pv 1) rfl) (nomark _)) (pe_one (pe_cmpR op_eq (pe_fld (pv 0) rfl) (pe_fld (pv 1) rfl) (nomark _))))))), ?_⟩
    fail "z run"
    refine rd_isOwn KO hq ?_
    fail "z run"
    refine ⟨_, _, _, _, _, rfl, ep, KT.cl, KT.n_low, kf_low _ _, ?_⟩
    fail "z run"
    refine ⟨_, _, _, _, _, rfl, eq, KT.cl, KT.n_low, kf_low _ _, ?_⟩
    fail "z run"
    refine rd_both (d := decide (b = d)) (fun Q' k' => ?_) ?_
    · fail "z run"
      refine ⟨_, _, _, _, _, rfl, ep, KT.cl, KT.n_high, kf_high _ _, ?_⟩
      fail "z run"
      refine ⟨_, _, _, _, _, rfl, eq, KT.cl, KT.n_high, kf_high _ _, ?_⟩
      fail "z run"
      rw [dec_int]
      exact k'
    · rw [dec_int]
      exact k
theorem ok_le {f C : Addr} {fd : FuncData} (F : Fun K "__le__" "Kind.__le__" s_Kind___le__ f fd) (T : Txt mg) (KT : KindT K C) (KO : KindO K C) (g_Kind : mg "Kind" = some (.ref C)) : FnOk P w K mg base CX0 1 f fd P_Kind___le__ (spCmp C leB) := by
  refine F.ok sc_Kind___le__ (fun vs H Q E h => ?_) (fun cdv A outer s H vs Q E hr h => ?_)
  · obtain ⟨p, q, a, b, c, d, rfl, _⟩ := h
    rfl
  · obtain ⟨p, q, a, b, c, d, rfl, hp, hq, k⟩ := h
    obtain ⟨dx, ep⟩ := id hp
    obtain ⟨dy, eq⟩ := id hq
    refine ⟨_, (pss_cons (ps_if (pt_not (pt_val (pe_callB call_isi (by rfl) T.n_isinstance (by decide +kernel) (pa_cons (pv 1) (pa_cons (pe_glob (v := .ref C) rfl g_Kind rfl) pa_nil))))) (pss_one ps_never) pss_nil)
      (pss_one (ps_ret (pe_and (pe_cmpR op_le (pe_fld (pv 1) rfl) (pe_fld (pv 0) rfl) (nomark _)) (pe_one (pe_cmpR op_le (pe_fld (pv 0) rfl) (pe_fld (pv 1) rfl) (nomark _))))))), ?_⟩
    fail "z run"
    refine rd_isOwn KO hq ?_
    fail "z run"
    refine iteF ?_
    fail "z run"
    refine ⟨_, _, _, _, _, rfl, eq, KT.cl, KT.n_low, kf_low _ _, ?_⟩
    fail "z run"
    refine ⟨_, _, _, _, _, rfl, ep, KT.cl, KT.n_low, kf_low _ _, ?_⟩
    fail "z run"
    refine rd_both (d := decide (b ≤ d)) (fun Q' k' => ?_) k
    fail "z run"
    refine ⟨_, _, _, _, _, rfl, ep, KT.cl, KT.n_high, kf_high _ _, ?_⟩
    fail "z run"
    refine ⟨_, _, _, _, _, rfl, eq, KT.cl, KT.n_high, kf_high _ _, ?_⟩
    fail "z run"
    exact k'
def ltB (a b c d : Int) : Bool := leB a b c d && !eqB a b c d
theorem ok_lt {f C : Addr} {fd : FuncData} (F : Fun K "__lt__" "Kind.__lt__" s_Kind___lt__ f fd) (T : Txt mg) (KT : KindT K C) (KO : KindO K C) (g_Kind : mg "Kind" = some (.ref C)) (c_le : CalN P w K mg base C 1 "__le__" P_Kind___le__ (spCmp C leB))
    (c_eq : CalN P w K mg base C 1 "__eq__" P_Kind___eq__ (spCmp C eqB)) : FnOk P w K mg base CX0 2 f fd P_Kind___lt__ (spCmp C ltB) := by
  obtain ⟨f_le, fd_le, o___le__, G_Kind___le__, b_Kind___le__⟩ := c_le
  obtain ⟨f_eq, fd_eq, o___eq__, G_Kind___eq__, b_Kind___eq__⟩ := c_eq
  refine F.ok sc_Kind___lt__ (fun vs H Q E h => ?_) (fun cdv A outer s H vs Q E hr h => ?_)
  · obtain ⟨p, q, a, b, c, d, rfl, _⟩ := h
    rfl
  · obtain ⟨p, q, a, b, c, d, rfl, hp, hq, k⟩ := h
    refine ⟨_, (pss_cons (ps_if (pt_not (pt_val (pe_callB call_isi (by rfl) T.n_isinstance (by decide +kernel) (pa_cons (pv 1) (pa_cons (pe_glob (v := .ref C) rfl g_Kind rfl) pa_nil))))) (pss_one ps_never) pss_nil)
      (pss_one (ps_ret (pe_and (pe_cmpR (op_cmpI (fun _ _ => rfl) o___le__.at_ o___le__.fn G_Kind___le__ (hr.mono (by decide)) b_Kind___le__ pass0) (pv 0) (pv 1) (nomark _)) (pe_one (pe_not (pe_cmpR (op_cmpI (fun _ _ => rfl) o___eq__.at_ o___eq__.fn G_Kind___eq__ (hr.mono (by decide)) b_Kind___eq__ pass0) (pv 0) (pv 1) (nomark _)))))))), ?_⟩
    fail "z run"
    refine rd_isOwn KO hq ?_
    fail "z run"
    refine iteF ?_
    fail "z run"
    refine rd_own hp hq ⟨p, q, a, b, c, d, rfl, hp, hq, ?_⟩
    fail "z run"
    refine rd_both (d := !eqB a b c d) (fun Q' k' => ?_) k
    fail "z run"
    refine rd_own hp hq ⟨p, q, a, b, c, d, rfl, hp, hq, ?_⟩
    fail "z run"
    exact k'
end
/-! ### methods that may raise, in a try; in of instances; the text of dicts -/
section
variable {X : Cx} {CX : CXT} {k : Nat} {f C : Addr} {fd : FuncData} {ps : List Str} {sp : Sp} {m : Str} {pos apos : Pos} {e o : Expr} {es : List Expr} {ta : TE} {t : TA}
/-- o.m(e, ..) in a try: what it raises goes to the wish that the slots at hand have -/
def tMethX (C : Addr) (m : Str) (sp : Sp) (E : L2.St → XK) (ta : TE) (t : TA) : TE := fun σ H Q => tMeth C m sp [] (E σ) ta t σ H Q
theorem pe_methX {E : L2.St → XK} {pl : Sem Bool} (he : PE X o ta) (c : Cls X.K C) (hm : Meth X.K C m f) (F : FnOk X.prog X.w X.K X.mg X.base CX k f fd ps sp) (hr : Room k X.A) (hb : Binds X.K fd ps []) (hx : ∀ σ, PassesAt CX X σ (E σ)) (ha : PA X (e :: es) t)
    (hst : starEach (e :: es) X.env = (false, eval e X.env) :: starEach es X.env := by rfl) (hpl : (backTo pos (starEach es X.env)).any (·.1) = false := by rfl)
    (ht : eval (.Call (.Attribute o m apos) (e :: es) [] pos) X.env = (do
      let ov ← eval o X.env
      standAt apos.atName
      let (f, first) ← holding [ov] (getMethod ov m pl)
      callWith pos f first (backTo pos (starEach (e :: es) X.env)) (backToKw pos (keywordEach [] X.env))) := by rfl) :
    PE X (.Call (.Attribute o m apos) (e :: es) [] pos) (tMethX C m sp E ta t) := by
  constructor
  intro pins s σ H Q I h
  refine PySem.W.methodCall_KW (pl := pl) (thn (he.run pins s σ H _ I h) fun u s1 z => ?_) ht
  obtain ⟨x, H1, I1, rx, a, dx, fs, rfl, ea, l, q⟩ := z
  cases rx
  refine getmeth_ok I1 ea c hm l (PySem.W.callWith_K (first := [.ref a]) (h₀ := X.base) I.ok.mod.kin hm.kp (thn (ha.run pos pins s1 σ H1 _ I1 q) fun us s2 z => ?_) hst hpl)
  obtain ⟨vs, H2, I2, r, q2⟩ := z
  rw [List.append_nil] at q2
  exact ⟨I2.kIn, run_fnS (us := .ref a :: us) (vs := .ref a :: vs) F hr hb (hx σ) I2 (.cons rfl r) q2⟩
/-- x in y, y an instance of the class at C with a def for it -/
def rInI (C : Addr) (sp : Sp) (E : XK) (g : Bool → Bool) : R2 := fun x y H Q => ∃ b dy gs, y = .ref b ∧ H b = some (.ins C dy gs) ∧ sp [y, x] H (fun z H' => ∃ c, z = .bl c ∧ Q (.bl (g c)) H') E
theorem op_inI {E : XK} (hs : PySem.W.findIn X.K (.ref C) "__contains__" = some (some (.ref f))) (hf : PySem.W.isFn X.K (.ref f) = true)
    (F : FnOk X.prog X.w X.K X.mg X.base CX k f fd ps sp) (hr : Room k X.A) (hb : Binds X.K fd ps []) (hx : Passes CX X E) : OpR X (compareOp .In) (rInI C sp E id) := by
  intro pins s σ H x y v u Q I rx ry h
  obtain ⟨b, dy, gs, rfl, hb', q⟩ := h
  cases (show u = Value.ref b from ry)
  obtain ⟨mB, O, _⟩ := ins_get I.hok hb'
  obtain ⟨od, J, _⟩ := O.look
  obtain ⟨m, hF⟩ := I.fr
  refine PySem.W.in_K hF I.ok.mod.kin J hs hf ?_
  refine wpAny_mono (run_in (us := [.ref b, v]) (ws := [.ref b, x]) F hr hb I.env0 hx I (.cons rfl (.cons rx .nil)) q) (fun w s' z => ?_) fun _ _ x => x
  obtain ⟨z', H', I', rz, c, ec, qz⟩ := z
  subst ec
  cases (show w = Value.bool c from rz)
  exact wpAny_truthy_bool ⟨.bl c, H', I', rfl, qz⟩
theorem op_notInI {E : XK} (hs : PySem.W.findIn X.K (.ref C) "__contains__" = some (some (.ref f))) (hf : PySem.W.isFn X.K (.ref f) = true)
    (F : FnOk X.prog X.w X.K X.mg X.base CX k f fd ps sp) (hr : Room k X.A) (hb : Binds X.K fd ps []) (hx : Passes CX X E) : OpR X (compareOp .NotIn) (rInI C sp E (!·)) := by
  intro pins s σ H x y v u Q I rx ry h
  obtain ⟨b, dy, gs, rfl, hb', q⟩ := h
  cases (show u = Value.ref b from ry)
  obtain ⟨mB, O, _⟩ := ins_get I.hok hb'
  obtain ⟨od, J, _⟩ := O.look
  obtain ⟨m, hF⟩ := I.fr
  refine PySem.W.notIn_K hF I.ok.mod.kin J hs hf ?_
  refine wpAny_mono (run_in (us := [.ref b, v]) (ws := [.ref b, x]) F hr hb I.env0 hx I (.cons rfl (.cons rx .nil)) q) (fun w s' z => ?_) fun _ _ x => x
  obtain ⟨z', H', I', rz, c, ec, qz⟩ := z
  subst ec
  cases (show w = Value.bool c from rz)
  exact wpAny_truthy_bool ⟨.bl (!c), H', I', rfl, qz⟩
end
/-- data with dicts of small keys: what a value is, at any depth -/
inductive Dq (K : PySem.W.Frag) (H : Hp) : V → PyData → Prop
  | dp {v : V} {d : PyData} (h : Dp K H v d) : Dq K H v d
  | d0 {a : Addr} (h : H a = some (.dK [])) : Dq K H (.ref a) (.dict [])
  | d1 {a : Addr} {i j : Int} (h : H a = some (.dK [(.inl i, .int j)])) : Dq K H (.ref a) (.dict [(.int i, .int j)])
def rReprQ (K : PySem.W.Frag) : List V → Hp → VK → Prop := fun xs H Q =>
  ∃ (x : V) (d : PyData), xs = [x] ∧ Dq K H x d ∧ d.showable = true ∧ (d.hasDict = true → ∀ v, ¬ Dp K H v d) ∧
    d.depth ≤ 64 ∧ d.shown.length ≤ sizeLine ∧ (∀ i, x = .int i → i.natAbs.log2 < 1920) ∧ Q (.str d.shown) H
theorem Dq.cases2 {K : PySem.W.Frag} {H : Hp} {v : V} {d : PyData} (h : Dq K H v d) (n : d.hasDict = true → ∀ v, ¬ Dp K H v d) : (Dp K H v d ∧ d.hasDict = false) ∨ ∃ a kvs ds, v = .ref a ∧ d = .dict ds ∧ H a = some (.dK kvs) ∧
    ((kvs = [] ∧ ds = []) ∨ ∃ i j : Int, kvs = [(.inl i, .int j)] ∧ ds = [(.int i, .int j)]) := by
  cases h with
  | dp h =>
    refine .inl ⟨h, ?_⟩
    cases e : d.hasDict with
    | false => rfl
    | true => exact absurd h (n e _)
  | d0 h => exact .inr ⟨_, _, _, rfl, rfl, h, .inl ⟨rfl, rfl⟩⟩
  | d1 h => exact .inr ⟨_, _, _, rfl, rfl, h, .inr ⟨_, _, rfl, rfl⟩⟩
theorem call_reprQ {X : Cx} (hg : Calm X.A) (hu : X.A.units + 70 < cLine) : CallR X (.builtin "repr") (rReprQ X.K) := by
  intro pins s σ H xs us Q I r h
  obtain ⟨x, d, rfl, hd, hs, hn, hdep, hsz, hi, q⟩ := h
  rcases hd.cases2 hn with ⟨hd, nd⟩ | ⟨a, kvs, ds, rfl, rfl, ea, hk⟩
  · exact call_reprD hg hu pins s σ H _ us Q I r ⟨x, d, rfl, hd, hs, nd, hdep, hsz, hi, q⟩
  · obtain ⟨u, rfl, rx⟩ := vals1 r
    cases rx
    have z : ObjOk X.prog X.w H s.heap a (.dK kvs) := I.hok a _ ea
    obtain ⟨_, nsm, vs, hkv, o, es, ep, ho, ⟨hc, _, _⟩, hdat, _, hp, _⟩ := z
    have rd : Reads s.heap (.ref a) (.dict ds) (a :: ([] : List Addr) ++ []) := by
      rcases hk with ⟨rfl, rfl⟩ | ⟨i, j, rfl, rfl⟩
      · cases hkv
        have e0 : es.toList = [] := by
          cases hl : es.toList with
          | nil => rfl
          | cons _ _ =>
            rw [hl] at hp
            cases hp
        refine Reads.dict ho hc hdat ?_ ?_
        · rw [e0]
          exact .nil
        · rw [e0]
          exact .nil
      · obtain ⟨kq, vq, rfl, ek, rv⟩ : ∃ kq vq, vs = [(kq, vq)] ∧ (Sum.inl i : Key) = kq ∧ RelV (.int j) vq := by
          match vs, hkv with
          | [(kq, vq)], .cons h1 .nil => exact ⟨kq, vq, rfl, h1.1, h1.2⟩
        · cases hl : es.toList with
          | nil =>
            rw [hl] at hp
            cases hp
          | cons e1 r1 =>
            rw [hl] at hp
            cases hp with
            | cons hk1 hv1 hr1 =>
              cases hr1
              subst ek
              obtain ⟨t, ev⟩ := rv
              have ev' : e1.val = .int j t := hv1.trans ev
              rcases keyIs_shape (show keyIs (.inl i) e1.key = true from hk1) with ⟨i', t', e2, e3⟩ | ⟨x', t', e2, e3⟩
              · have ei : i = i' := Sum.inl.inj e2
                subst ei
                refine Reads.dict (as := [] ++ []) (bs := [] ++ []) ho hc hdat ?_ ?_
                · rw [hl]
                  show ReadsAll s.heap [e1.key] [PyData.int i] _
                  rw [e3]
                  exact .cons (.int i t') .nil
                · rw [hl]
                  show ReadsAll s.heap [e1.val] [PyData.int j] _
                  rw [ev']
                  exact .cons (.int j t) .nil
              · cases e2
    refine repr_of_reads' rd hs (fun _ hm => ?_) hg (by omega) (fun _ _ e => e) (fun h' u tk hk => ?_) hsz
    · rw [List.append_nil] at hm
      have e := List.mem_singleton.mp hm
      rw [← e] at nsm
      simp at nsm
    · exact ⟨.str _, H, I.kept (t' := tk) hk, ⟨_, rfl⟩, q⟩
theorem rd_reprQ {K : PySem.W.Frag} {H : Hp} {Q : VK} {v : V} {d : PyData} {k n : Nat} (h : Dp K H v d) (s : Sm k n d) (hk : k ≤ 60) (hn : n ≤ 50000) (q : Q (.str d.shown) H) : rReprQ K [v] H Q := by
  refine ⟨v, d, rfl, .dp h, s.sh, fun z => ?_, by have := s.dp; omega, s.text hn, fun i e => ?_, q⟩
  · rw [s.nd] at z
    cases z
  · subst e
    cases h
    have z := s.sh
    simp only [PyData.showable, decide_eq_true_eq] at z
    exact z
theorem rd_reprQ0 {K : PySem.W.Frag} {H : Hp} {Q : VK} {a : Addr} (h : H a = some (.dK [])) (q : Q (.str (PyData.shown (.dict []))) H) : rReprQ K [.ref a] H Q := by
  refine ⟨_, _, rfl, .d0 h, by simp [PyData.showable, PyData.showableKv], (fun _ v z => nomatch z), ?_, ?_, fun i e => V.noConfusion e, q⟩
  · simp [PyData.depth, PyData.depthKv]
  · exact few (by decide)
/-! ### errors with one value -/
theorem kit_sub {K : PySem.W.Frag} {C : Addr} {n : String} (hm : PySem.W.kitMeta n = true) (h : PySem.W.subIn K (.ref C) (.type n) = some true) : PySem.W.kitOne K (.ref C) (.type n) = some true := by
  unfold PySem.W.kitOne PySem.W.kitCls
  rw [if_neg (by simp)]
  first
    | (rw [if_pos hm]; exact h)
    | (simp only [hm, if_true]; exact h)
structure ErrT (K : PySem.W.Frag) (mg : Str → Option Value) (CW C : Addr) (nm : Str) : Prop where
  ox : OexC K C
  ek : ExcK K C
  nv : PySem.W.findIn K (.ref C) "value" = some none
  me : PySem.W.exmOne K (.ref C) (.ref CW) = some true
  kc : PySem.W.kitOne K (.ref C) (.ref C) = some true
  kv : PySem.W.kitOne K (.ref C) (.type "ValueError") = some true
  g : mg nm = some (.ref C)
def spBad (C : Addr) : Sp := fun vs H Q _ => ∃ (a : Addr) (v : V), vs = [.ref a, v] ∧ H a = some (exo a C none) ∧ ∀ dx, H dx = none → dx ≠ a → Q .non (upd (upd H dx (exd dx [("value", v)])) a (exo a C (some dx)))
theorem rd_bad {C : Addr} {H : Hp} {Q : XK} {E : XK} {v : V} (k : ∀ d H', H d = none → Same H H' → H' d = some (.xd [("value", v)]) → Q (.ref C) (some d) H') :
    [v].length ≤ 1000 ∧ ∀ a, H a = none → spBad C (.ref a :: ([v] ++ [])) (upd H a (exo a C none)) (fun u H2 => u = .non ∧ ∃ (d : Addr) (fs : List (Str × V)), H2 a = some (exo a C (some d)) ∧ H2 d = some (exd d fs) ∧ H d = none ∧ Q (.ref C) (some d) (upd (del H2 a) d (.xd fs))) E := by
  refine ⟨Nat.le_of_ble_eq_true rfl, fun a na => ⟨a, v, rfl, upd_same, fun dx nd ne => ?_⟩⟩
  have nd' : H dx = none := (upd_ne ne).symm.trans nd
  refine ⟨rfl, dx, _, upd_same, (upd_ne ne).trans upd_same, nd', k dx _ nd' (fun b o e => ?_) upd_same⟩
  have n1 : b ≠ a := ne_of_none e na
  have n2 : b ≠ dx := ne_of_none e nd'
  rw [upd_ne n2, del_ne n1, upd_ne n1, upd_ne n2, upd_ne n1]
  exact e
theorem rd_ost {K : PySem.W.Frag} {a C : Addr} {f : Str} {y : V} {H : Hp} {R : Hp → Prop} (T : OexC K C) (no : PySem.W.findIn K (.ref C) f = some none) (e : H a = some (exo a C none)) (k : ∀ dx, H dx = none → dx ≠ a → R (upd (upd H dx (exd dx [(f, y)])) a (exo a C (some dx)))) :
    ∃ a' C' : Addr, V.ref a = .ref a' ∧ OexC K C' ∧ PySem.W.findIn K (.ref C') f = some none ∧ ((H a' = some (exo a' C' none) ∧ ∀ dx, H dx = none → dx ≠ a' → R (upd (upd H dx (exd dx [(f, y)])) a' (exo a' C' (some dx)))) ∨
      ∃ (dx : Addr) (fs : List (Str × V)), H a' = some (exo a' C' (some dx)) ∧ H dx = some (exd dx fs) ∧ fs.length ≤ 900 ∧ R (upd H dx (exd dx ((f, y) :: fs)))) := ⟨a, C, rfl, T, no, .inl ⟨e, k⟩⟩
theorem pss_none {X : Cx} {l : List Stmt} : PSs X l (fun _ _ _ => False) := ⟨fun _ _ _ _ _ _ h => h.elim⟩
section
variable {X : Cx} {a : Addr} {oe : Obj} {cls : Value} {d : Option Addr} {pn : List (Addr × Obj)}
theorem call_isK (hz : Zc cls d oe) (hf : ∃ vs, oe.data = .fields vs) : CallR (kept X a oe pn) (.builtin "isinstance") (rIsP X.K a cls d) := call_isP (X := kept X a oe pn) List.mem_cons_self hz hf
theorem call_reprK (hg : Calm X.A) (hu : X.A.units + 70 < cLine) : CallR (kept X a oe pn) (.builtin "repr") (rReprQ X.K) := call_reprQ (X := kept X a oe pn) hg hu
theorem pe_xfK {e : Expr} {te : TE} {pos : Pos} {n : Str} (hz : Zc cls d oe) (hf : ∃ vs, oe.data = .fields vs) (he : PE (kept X a oe pn) e te) (hb : attributeBase e n X.env (eval e X.env) = eval e X.env := by rfl) :
    PE (kept X a oe pn) (.Attribute e n pos) (tXfP X.K a cls d n te) := pe_xfP (X := kept X a oe pn) List.mem_cons_self hz hf he hb
end
/-! ### own == with any value; != likewise; str of an instance; making that may raise -/
section
variable {prog : Program} {w : World} {A : Around} {E : Value → Shared → Prop} {s : Shared} {K : PySem.W.Frag} {x C f : Addr} {ox : Obj} {od : Option Obj} {b tb : Value}
theorem ne_KA {L : Addr} {h₀ : Heap} {m : Str → Option Value} {Q : Value → Shared → Prop} (hu : A.units + 1 < cLine) (F0 : PyProof.Rows.Fr h₀ L s.heap m) (X₀ : K.In h₀) (I : PySem.W.InstAt s.heap x ox C od) (hb : PySem.W.Looks (model prog w) s.heap (typeOf b) tb) (hnf : PySem.W.notFirst K C tb = true)
    (hm : PySem.W.mroIn K C (.type "object") = some true) (hn : PySem.W.findIn K (.ref C) "__ne__" = some (some (.builtin "object.__ne__"))) (hs : PySem.W.findIn K (.ref C) "__eq__" = some (some (.ref f))) (hf : PySem.W.isFn K (.ref f) = true)
    (h : wpAny (model prog w) A.in1 (call (.ref f) [.ref x, b]) (fun v s' => ∃ c, v = .bool c ∧ Q (.bool (!c)) s') E s) : wpAny (model prog w) A (richCompare .NotEq (.ref x) b) Q E s := by
  have X := X₀.keeps F0.keep
  have one : wpAny (model prog w) A (tryCompare (.ref x) "__ne__" b) (fun r s' => ∃ v, r = some v ∧ Q v s') E s := by
    unfold tryCompare
    refine wpAny_bind (ifBound_ne X I hn (wpAny_call (codeAny_call_builtin F.cmp_object.ne.plain F.cmpEntry_ne (PySem.W.check_slot F.cmpKind_ne F.cmpSplit_ne (I.type.andThen (PySem.W.looks_mroIn X hm)) (F.cmpArgs_ne _ _)
      (entry_ne (A := A.in1) hu X I hs hf (wpAny_mono h (fun v s' hv => ?_) fun _ _ e => e))))))
    obtain ⟨c, rfl, hq⟩ := hv
    first
      | exact ⟨c, rfl, wpAny_pure ⟨_, rfl, hq⟩⟩
      | exact ⟨c, rfl, _, rfl, hq⟩
  have fin : wpAny (model prog w) A (tryCompare (.ref x) "__ne__" b) (fun r s' => ∃ v, r = some v ∧ Q v s') E s := one
  simp only [richCompare, cmpInfo_NotEq, oneThing_ref]
  refine wpAny_holding (wpAny_bind (wpAny_cRoomFor (Nat.lt_of_succ_lt hu) ?_))
  refine wpAny_bind (I.type.here (wpAny_bind (hb.here ?_)))
  by_cases q : (Value.ref C != tb) = true
  · have e : PySem.W.subIn K tb (.ref C) = some false := by
      rcases Bool.or_eq_true_iff.mp hnf with e | e
      · rw [beq_iff_eq.mp e] at q
        simp at q
      · exact beq_iff_eq.mp e
    rw [if_pos q]
    refine wpAny_bind ((PySem.W.looks_subIn X e).here ?_)
    simp only [Bool.false_eq_true, if_false]
    refine wpAny_bind (wpAny_mono fin (fun r s' z => ?_) fun _ _ e => e)
    obtain ⟨v, rfl, hq⟩ := z
    exact wpAny_pure hq
  · rw [if_neg q]
    refine wpAny_bind (wpAny_pure ?_)
    simp only [Bool.false_eq_true, if_false]
    refine wpAny_bind (wpAny_mono fin (fun r s' z => ?_) fun _ _ e => e)
    obtain ⟨v, rfl, hq⟩ := z
    exact wpAny_pure hq
end
section
variable {X : Cx} {CX : CXT} {C g : Addr} {fd : FuncData} {ps : List Str} {k : Nat} {sp : Sp} {E : XK} {e : Expr} {es : List Expr} {t : TA} {x : Str} {p pos : Pos}
/-- x == y: x an instance of the class at C, whose def for it is at g; y of any type that does not go first -/
def rOwnA (K : PySem.W.Frag) (C : Addr) (sp : Sp) (E : XK) : R2 := fun x y H Q => ∃ a dx fs ty, x = .ref a ∧ H a = some (.ins C dx fs) ∧ TyX K H y ty ∧ PySem.W.notFirst K C ty = true ∧ sp [x, y] H Q E
theorem op_eqA {K0 : PySem.W.Frag} (hK : X.K = K0) (hs : PySem.W.findIn X.K (.ref C) "__eq__" = some (some (.ref g))) (hf : PySem.W.isFn X.K (.ref g) = true)
    (F : FnOk X.prog X.w X.K X.mg X.base CX k g fd ps sp) (hr : Room k X.A) (hb : Binds X.K fd ps []) (hx : Passes CX X E) : OpR X (compareOp .Eq) (rOwnA K0 C sp E) := by
  subst hK
  intro pins s σ H x y v u Q I rx ry h
  obtain ⟨a, dx, fs, ty, rfl, ha, hty, hnf, q⟩ := h
  cases (show v = Value.ref a from rx)
  obtain ⟨mA, O, _⟩ := ins_get I.hok ha
  obtain ⟨od, J, _⟩ := O.look
  obtain ⟨R, kx, kr, _⟩ := kit_of I ry hty
  obtain ⟨m, hF⟩ := I.fr
  show wpAny _ _ (richCompare .Eq (.ref a) u) _ _ s
  refine PySem.W.cmp_K (op := .Eq) (tb := ty) hr.units0 hF I.ok.mod.kin J (kx.ty _ _ I.kIn kr) hnf hs hf ?_
  refine wpAny_mono (run_in (us := [.ref a, u]) (ws := [.ref a, y]) F hr hb I.env0 hx I (.cons rfl (.cons ry .nil)) q) (fun w s' z => ?_) fun _ _ x => x
  obtain ⟨z', H', I', rz, qz⟩ := z
  exact SlX.cmpback rz ⟨z', H', I', rz, qz⟩
/-- x != y by the own == -/
def rNeA (K : PySem.W.Frag) (C : Addr) (sp : Sp) (E : XK) : R2 := fun x y H Q => ∃ a dx fs ty, x = .ref a ∧ H a = some (.ins C dx fs) ∧ TyX K H y ty ∧ PySem.W.notFirst K C ty = true ∧ sp [x, y] H (fun z H' => ∃ c, z = .bl c ∧ Q (.bl (!c)) H') E
theorem op_neA {K0 : PySem.W.Frag} (hK : X.K = K0) (hm : PySem.W.mroIn X.K C (.type "object") = some true) (hn : PySem.W.findIn X.K (.ref C) "__ne__" = some (some (.builtin "object.__ne__"))) (hs : PySem.W.findIn X.K (.ref C) "__eq__" = some (some (.ref g))) (hf : PySem.W.isFn X.K (.ref g) = true)
    (F : FnOk X.prog X.w X.K X.mg X.base CX k g fd ps sp) (hr : Room (k + 1) X.A) (hb : Binds X.K fd ps []) (hx : Passes CX X E) (hu : X.A.units + 1 < cLine) : OpR X (compareOp .NotEq) (rNeA K0 C sp E) := by
  subst hK
  intro pins s σ H x y v u Q I rx ry h
  obtain ⟨a, dx, fs, ty, rfl, ha, hty, hnf, q⟩ := h
  cases (show v = Value.ref a from rx)
  obtain ⟨mA, O, _⟩ := ins_get I.hok ha
  obtain ⟨od, J, _⟩ := O.look
  obtain ⟨R, kx, kr, _⟩ := kit_of I ry hty
  obtain ⟨m, hF⟩ := I.fr
  show wpAny _ _ (richCompare .NotEq (.ref a) u) _ _ s
  refine ne_KA (tb := ty) hu hF I.ok.mod.kin J (kx.ty _ _ I.kIn kr) hnf hm hn hs hf ?_
  refine wpAny_mono (run_in (us := [.ref a, u]) (ws := [.ref a, y]) F hr.in1 hb I.env0.in1 hx I (.cons rfl (.cons ry .nil)) q) (fun w s' z => ?_) fun _ _ x => x
  obtain ⟨z', H', I', rz, c, ec, qz⟩ := z
  subst ec
  cases (show w = Value.bool c from rz)
  exact ⟨c, rfl, .bl (!c), H', I', rfl, qz⟩
/-- str(x), x an instance whose class has a def for it -/
def rStrI (C : Addr) (sp : Sp) (E : XK) : List V → Hp → VK → Prop := fun xs H Q => ∃ a dx fs, xs = [.ref a] ∧ H a = some (.ins C dx fs) ∧ sp [.ref a] H (fun z H' => ∃ t, z = .str t ∧ Q (.str t) H') E
theorem call_strI (hs : PySem.W.findIn X.K (.ref C) "__str__" = some (some (.ref g))) (hf : PySem.W.isFn X.K (.ref g) = true)
    (F : FnOk X.prog X.w X.K X.mg X.base CX k g fd ps sp) (hr : Room (k + 2) X.A) (hb : Binds X.K fd ps []) (hx : Passes CX X E) (hu : X.A.units + 70 < cLine) : CallR X (.type "str") (rStrI C sp E) := by
  intro pins s σ H xs us Q I r h
  obtain ⟨a, dx, fs, rfl, ha, q⟩ := h
  obtain ⟨u, rfl, rx⟩ := vals1 r
  cases rx
  obtain ⟨mA, O, _⟩ := ins_get I.hok ha
  obtain ⟨od, J, _⟩ := O.look
  refine PySem.W.kso_call (by show X.A.units + 1 + 1 < cLine; omega) I.kIn J hs hf ?_
  refine wpAny_mono (run_in (us := [.ref a]) (ws := [.ref a]) F hr.in1.in1 hb I.env0.in1.in1 hx I (.cons rfl .nil) q) (fun w s' z => ?_) fun _ _ x => x
  obtain ⟨z', H', I', rz, t, et, qz⟩ := z
  subst et
  obtain ⟨tk, rfl⟩ := rz
  exact ⟨.str t, H', I', ⟨_, rfl⟩, qz⟩
/-- C(e, ..) in a try: what it raises goes to the wish that the slots at hand have -/
def tMakeX (C : Addr) (sp : Sp) (E : L2.St → XK) (t : TA) : TE := fun σ H Q => tMake C sp [] (E σ) t σ H Q
theorem pe_makeX {f : Addr} {E : L2.St → XK} (M : Mk X.K C f) (F : FnOk X.prog X.w X.K X.mg X.base CX k f fd ps sp) (hr : Room (k + 1) X.A) (hg : Gl X x) (hm : X.mg x = some (.ref C)) (hb : Binds X.K fd ps []) (hx : ∀ σ, PassesAt CX X σ (E σ))
    (ha : PA X (e :: es) t) (hdb : (x == ("__debug__" : Str)) = false := by decide) (he : starEach (e :: es) X.env = (false, eval e X.env) :: starEach es X.env := by rfl) (hpl : (backTo pos (starEach es X.env)).any (·.1) = false := by rfl) :
    PE X (.Call (.Name x p) (e :: es) [] pos) (tMakeX C sp E t) := by
  constructor
  intro pins s σ H Q I h
  refine wpAny_Call_Name_kw (ld_glob I hg hm (PySem.W.callWith_K (h₀ := X.base) I.ok.mod.kin M.kp (thn (ha.run pos pins s σ H _ I h) fun us s1 z => ?_) he hpl) hdb)
  obtain ⟨vs, H1, J, r, q0⟩ := z
  have q : ∀ x dx, H1 x = none → H1 dx = none → dx ≠ x → sp (.ref x :: (vs ++ [])) (upd (upd H1 dx (.own x)) x (.ins C dx [])) (fun v H2 => v = .non ∧ Q (.ref x) H2) (E σ) := q0
  refine ⟨J.kIn, ?_⟩
  have hq := q (s1.heap.objs.size + 1) s1.heap.objs.size (J.hok.fresh (Nat.le_succ _)) (J.hok.fresh (Nat.le_refl _)) (Nat.ne_of_lt (Nat.lt_succ_self _))
  have I2 := Inv.made (C := C) J
  have r2 : Vals (V.ref (s1.heap.objs.size + 1) :: (vs ++ [])) (Value.ref (s1.heap.objs.size + 1) :: (us ++ [])) := .cons rfl (r.append .nil)
  have hl : (Value.ref (s1.heap.objs.size + 1) :: us ++ []).length = ps.length := r2.length.symm.trans (F.len _ _ _ _ hq)
  refine wpAny_call (make_map (f := f) J.kIn M.makes M.init (beq_iff_eq.mp M.fn) (codeAny_mono (F.run _ X.stack _ _ ⟨Value.ref (s1.heap.objs.size + 1) :: us, []⟩ (Value.ref (s1.heap.objs.size + 1) :: (us ++ [])) _ _ (E σ) (hr.make C us [])
    (I2.env0.make C us []) (by have z := hb _ (Value.ref (s1.heap.objs.size + 1) :: us) I2.kIn hl; rw [List.append_nil] at z ⊢; exact z) r2 hq) fun r s' z => ?_))
  match r, z with
  | .error e, z => exact hx σ pins _ _ e s' I2 z
  | .ok (.ret _), z =>
    obtain ⟨v, H', I3, rv, ev, q3⟩ := I2.after z
    subst ev
    exact ⟨rv, ⟨V.ref (s1.heap.objs.size + 1), H', I3, rfl, q3⟩⟩
  | .ok .next, z => exact z.elim
  | .ok .brk, z => exact z.elim
  | .ok .cont, z => exact z.elim
end
/-! ### errors with two values -/
structure ErrT2 (K : PySem.W.Frag) (mg : Str → Option Value) (CW C : Addr) (nm f1 f2 : Str) : Prop where
  ox : OexC K C
  ek : ExcK K C
  n1 : PySem.W.findIn K (.ref C) f1 = some none
  n2 : PySem.W.findIn K (.ref C) f2 = some none
  me : PySem.W.exmOne K (.ref C) (.ref CW) = some true
  kc : PySem.W.kitOne K (.ref C) (.ref C) = some true
  kv : PySem.W.kitOne K (.ref C) (.type "ValueError") = some true
  g : mg nm = some (.ref C)
def spBad2 (C : Addr) (f1 f2 : Str) : Sp := fun vs H Q _ => ∃ (a : Addr) (v w : V), vs = [.ref a, v, w] ∧ H a = some (exo a C none) ∧ ∀ dx, H dx = none → dx ≠ a → Q .non (upd (upd (upd H dx (exd dx [(f1, v)])) a (exo a C (some dx))) dx (exd dx [(f2, w), (f1, v)]))
theorem rd_bad2 {C : Addr} {f1 f2 : Str} {H : Hp} {Q : XK} {E : XK} {v w : V} (k : ∀ d H', H d = none → Same H H' → H' d = some (.xd [(f2, w), (f1, v)]) → Q (.ref C) (some d) H') :
    [v, w].length ≤ 1000 ∧ ∀ a, H a = none → spBad2 C f1 f2 (.ref a :: ([v, w] ++ [])) (upd H a (exo a C none)) (fun u H2 => u = .non ∧ ∃ (d : Addr) (fs : List (Str × V)), H2 a = some (exo a C (some d)) ∧ H2 d = some (exd d fs) ∧ H d = none ∧ Q (.ref C) (some d) (upd (del H2 a) d (.xd fs))) E := by
  refine ⟨Nat.le_of_ble_eq_true rfl, fun a na => ⟨a, v, w, rfl, upd_same, fun dx nd ne => ?_⟩⟩
  have nd' : H dx = none := (upd_ne ne).symm.trans nd
  refine ⟨rfl, dx, _, (upd_ne ne.symm).trans upd_same, upd_same, nd', k dx _ nd' (fun b o e => ?_) upd_same⟩
  have n1 : b ≠ a := ne_of_none e na
  have n2 : b ≠ dx := ne_of_none e nd'
  rw [upd_ne n2, del_ne n1, upd_ne n2, upd_ne n1, upd_ne n2, upd_ne n1]
  exact e
theorem rd_ost2 {K : PySem.W.Frag} {a C dx : Addr} {f : Str} {y : V} {H : Hp} {R : Hp → Prop} {fs : List (Str × V)} (T : OexC K C) (no : PySem.W.findIn K (.ref C) f = some none) (e : H a = some (exo a C (some dx))) (ed : H dx = some (exd dx fs)) (hl : fs.length ≤ 900) (k : R (upd H dx (exd dx ((f, y) :: fs)))) :
    ∃ a' C' : Addr, V.ref a = .ref a' ∧ OexC K C' ∧ PySem.W.findIn K (.ref C') f = some none ∧ ((H a' = some (exo a' C' none) ∧ ∀ dx, H dx = none → dx ≠ a' → R (upd (upd H dx (exd dx [(f, y)])) a' (exo a' C' (some dx)))) ∨
      ∃ (dx : Addr) (fs : List (Str × V)), H a' = some (exo a' C' (some dx)) ∧ H dx = some (exd dx fs) ∧ fs.length ≤ 900 ∧ R (upd H dx (exd dx ((f, y) :: fs)))) := ⟨a, C, rfl, T, no, .inr ⟨dx, fs, e, ed, hl, k⟩⟩
/-! ### data with dicts within, at any depth -/
mutual
inductive Dz (H : Hp) : V → PyData → Prop
  | non : Dz H .non .none
  | bl (b : Bool) : Dz H (.bl b) (.bool b)
  | int (i : Int) : Dz H (.int i) (.int i)
  | str (x : Str) : Dz H (.str x) (.str x)
  | lst {a : Addr} {xs : List V} {ds : List PyData} : a ≠ sysModules → H a = some (.lst xs) → DzAll H xs ds → Dz H (.ref a) (.list ds)
  | tup {a : Addr} {xs : List V} {ds : List PyData} : H a = some (.tup xs) → DzAll H xs ds → Dz H (.ref a) (.tuple ds)
  | d0 {a : Addr} : H a = some (.dK []) → Dz H (.ref a) (.dict [])
  | d1 {a : Addr} {i j : Int} : H a = some (.dK [(.inl i, .int j)]) → Dz H (.ref a) (.dict [(.int i, .int j)])
inductive DzAll (H : Hp) : List V → List PyData → Prop
  | nil : DzAll H [] []
  | cons {v : V} {vs : List V} {d : PyData} {ds : List PyData} : Dz H v d → DzAll H vs ds → DzAll H (v :: vs) (d :: ds)
end
section
variable {X : Cx} {pins : List (Addr × Obj)} {σ : L2.St} {H : Hp} {s : Shared}
theorem d_reads {a : Addr} {kvs : List (Key × V)} {ds : List (PyData × PyData)} (I : Inv X pins σ H s) (ea : H a = some (.dK kvs)) (hk : (kvs = [] ∧ ds = []) ∨ ∃ i j : Int, kvs = [(.inl i, .int j)] ∧ ds = [(.int i, .int j)]) :
    Reads s.heap (.ref a) (.dict ds) (a :: ([] : List Addr) ++ []) ∧ sysModules ∉ (a :: ([] : List Addr) ++ []) := by
  have z : ObjOk X.prog X.w H s.heap a (.dK kvs) := I.hok a _ ea
  obtain ⟨_, nsm, vs, hkv, o, es, ep, ho, ⟨hc, _, _⟩, hdat, _, hp, _⟩ := z
  have rd : Reads s.heap (.ref a) (.dict ds) (a :: ([] : List Addr) ++ []) := by
    rcases hk with ⟨rfl, rfl⟩ | ⟨i, j, rfl, rfl⟩
    · cases hkv
      have e0 : es.toList = [] := by
        cases hl : es.toList with
        | nil => rfl
        | cons _ _ =>
          rw [hl] at hp
          cases hp
      refine Reads.dict ho hc hdat ?_ ?_
      · rw [e0]
        exact .nil
      · rw [e0]
        exact .nil
    · obtain ⟨kq, vq, rfl, ek, rv⟩ : ∃ kq vq, vs = [(kq, vq)] ∧ (Sum.inl i : Key) = kq ∧ RelV (.int j) vq := by
        match vs, hkv with
        | [(kq, vq)], .cons h1 .nil => exact ⟨kq, vq, rfl, h1.1, h1.2⟩
      · cases hl : es.toList with
        | nil =>
          rw [hl] at hp
          cases hp
        | cons e1 r1 =>
          rw [hl] at hp
          cases hp with
          | cons hk1 hv1 hr1 =>
            cases hr1
            subst ek
            obtain ⟨t, ev⟩ := rv
            have ev' : e1.val = .int j t := hv1.trans ev
            rcases keyIs_shape (show keyIs (.inl i) e1.key = true from hk1) with ⟨i', t', e2, e3⟩ | ⟨x', t', e2, e3⟩
            · have ei : i = i' := Sum.inl.inj e2
              subst ei
              refine Reads.dict (as := [] ++ []) (bs := [] ++ []) ho hc hdat ?_ ?_
              · rw [hl]
                show ReadsAll s.heap [e1.key] [PyData.int i] _
                rw [e3]
                exact .cons (.int i t') .nil
              · rw [hl]
                show ReadsAll s.heap [e1.val] [PyData.int j] _
                rw [ev']
                exact .cons (.int j t) .nil
            · cases e2
  refine ⟨rd, fun hm => ?_⟩
  rw [List.append_nil] at hm
  have e := List.mem_singleton.mp hm
  rw [← e] at nsm
  simp at nsm
theorem no_app {a : Addr} {l m : List Addr} (h1 : a ∉ l) (h2 : a ∉ m) : a ∉ l ++ m := fun h => (List.mem_append.mp h).elim h1 h2
mutual
theorem Dz.reads (I : Inv X pins σ H s) : ∀ {v : V} {d : PyData} {u : Value}, Dz H v d → RelV v u → ∃ as, Reads s.heap u d as ∧ sysModules ∉ as
  | _, _, _, .non, r => by
    cases r
    exact ⟨_, .none, List.not_mem_nil⟩
  | _, _, _, .bl b, r => by
    cases r
    exact ⟨_, .bool b, List.not_mem_nil⟩
  | _, _, _, .int i, r => by
    obtain ⟨t, rfl⟩ := r
    exact ⟨_, .int i t, List.not_mem_nil⟩
  | _, _, _, .str x, r => by
    obtain ⟨t, rfl⟩ := r
    exact ⟨_, .str x t, List.not_mem_nil⟩
  | _, _, _, .lst (a := a) (xs := xs) na ha hd, r => by
    cases r
    have z : ObjOk X.prog X.w H s.heap a (.lst xs) := I.hok a _ ha
    obtain ⟨_, its, n, rv, e⟩ := z
    obtain ⟨as, q, no⟩ := DzAll.reads I hd rv
    exact ⟨_, .list e rfl rfl q, fun h => (List.mem_cons.mp h).elim (fun e => na e.symm) no⟩
  | _, _, _, .tup (a := a) (xs := xs) ha hd, r => by
    cases r
    have z : ObjOk X.prog X.w H s.heap a (.tup xs) := I.hok a _ ha
    obtain ⟨_, its, rv, ob, e, c, n, dd⟩ := z
    obtain ⟨as, q, no⟩ := DzAll.reads I hd rv
    exact ⟨_, .tuple e c dd q, no⟩
  | _, _, _, .d0 (a := a) ha, r => by
    cases r
    exact ⟨_, d_reads I ha (.inl ⟨rfl, rfl⟩)⟩
  | _, _, _, .d1 (a := a) ha, r => by
    cases r
    exact ⟨_, d_reads I ha (.inr ⟨_, _, rfl, rfl⟩)⟩
theorem DzAll.reads (I : Inv X pins σ H s) : ∀ {vs : List V} {ds : List PyData} {us : List Value}, DzAll H vs ds → Vals vs us → ∃ as, ReadsAll s.heap us ds as ∧ sysModules ∉ as
  | _, _, _, .nil, r => by
    cases r
    exact ⟨_, .nil, List.not_mem_nil⟩
  | _, _, _, .cons h t, r => by
    cases r with
    | cons r1 r2 =>
      obtain ⟨as, q, no⟩ := Dz.reads I h r1
      obtain ⟨bs, q2, no2⟩ := DzAll.reads I t r2
      exact ⟨_, .cons q q2, no_app no no2⟩
end
end
def rReprZ : List V → Hp → VK → Prop := fun xs H Q => ∃ (x : V) (d : PyData), xs = [x] ∧ Dz H x d ∧ d.showable = true ∧ d.depth ≤ 64 ∧ d.shown.length ≤ sizeLine ∧ (∀ i, x = .int i → i.natAbs.log2 < 1920) ∧ Q (.str d.shown) H
theorem call_reprZ {X : Cx} (hg : Calm X.A) (hu : X.A.units + 70 < cLine) : CallR X (.builtin "repr") rReprZ := by
  intro pins s σ H xs us Q I r h
  obtain ⟨x, d, rfl, hd, hs, hdep, hsz, hi, q⟩ := h
  obtain ⟨u, rfl, rx⟩ := vals1 r
  obtain ⟨as, rd, no⟩ := Dz.reads I hd rx
  have go : ∀ a, u = .ref a → wpAny (model X.prog X.w) X.A (call (.builtin "repr") [u]) (EP X pins σ Q) X.xe s := fun a e => by
    subst e
    refine repr_of_reads' rd hs (fun _ => no) hg (by omega) (fun _ _ e => e) (fun h' u tk hk => ?_) hsz
    exact ⟨.str _, H, I.kept (t' := tk) hk, ⟨_, rfl⟩, q⟩
  cases hd with
  | non =>
    cases rx
    exact PySem.P.repr_of_none ⟨.str _, H, I.tok _, ⟨_, rfl⟩, q⟩
  | bl b =>
    cases rx
    refine PySem.P.repr_of_bool ⟨.str _, H, I.tok _, ⟨_, rfl⟩, ?_⟩
    cases b <;> exact q
  | int i =>
    obtain ⟨t, rfl⟩ := rx
    exact PySem.P.repr_of_int (hi i rfl) ⟨.str _, H, I.tok _, ⟨_, rfl⟩, q⟩
  | str z =>
    obtain ⟨t, rfl⟩ := rx
    exact PySem.P.repr_of_str ⟨.str _, H, I.tok _, ⟨_, rfl⟩, q⟩ hsz
  | lst _ _ _ => exact go _ rx
  | tup _ _ => exact go _ rx
  | d0 _ => exact go _ rx
  | d1 _ => exact go _ rx
theorem call_reprZK {X : Cx} {a : Addr} {oe : Obj} {pn : List (Addr × Obj)} (hg : Calm X.A) (hu : X.A.units + 70 < cLine) : CallR (kept X a oe pn) (.builtin "repr") rReprZ := call_reprZ (X := kept X a oe pn) hg hu
mutual
theorem Dz.same {H H' : Hp} (S : Same H H') : ∀ {v : V} {d : PyData}, Dz H v d → Dz H' v d
  | _, _, .non => .non
  | _, _, .bl b => .bl b
  | _, _, .int i => .int i
  | _, _, .str x => .str x
  | _, _, .lst na ha hd => .lst na (S _ _ ha) (DzAll.same S hd)
  | _, _, .tup ha hd => .tup (S _ _ ha) (DzAll.same S hd)
  | _, _, .d0 ha => .d0 (S _ _ ha)
  | _, _, .d1 ha => .d1 (S _ _ ha)
theorem DzAll.same {H H' : Hp} (S : Same H H') : ∀ {vs : List V} {ds : List PyData}, DzAll H vs ds → DzAll H' vs ds
  | _, _, .nil => .nil
  | _, _, .cons h t => .cons (Dz.same S h) (DzAll.same S t)
end
/-- small data, dicts within or not -/
structure Sz (k n : Nat) (d : PyData) : Prop where
  sh : d.showable = true
  ls : d.leavesShort 250 = true
  wt : d.weight ≤ n
  dp : d.depth ≤ k
structure SzAll (k n : Nat) (ds : List PyData) : Prop where
  sh : PyData.showableAll ds = true
  ls : PyData.leavesShortAll 250 ds = true
  wt : PyData.weightAll ds ≤ n
  dp : PyData.depthAll ds ≤ k
theorem Sm.z {k n : Nat} {d : PyData} (h : Sm k n d) : Sz k n d := ⟨h.sh, h.ls, h.wt, h.dp⟩
theorem Sz.up {k n k' n' : Nat} {d : PyData} (h : Sz k n d) (hk : k ≤ k') (hn : n ≤ n') : Sz k' n' d := ⟨h.sh, h.ls, Nat.le_trans h.wt hn, Nat.le_trans h.dp hk⟩
theorem sz_nil {k : Nat} : SzAll k 0 [] := ⟨by simp [PyData.showableAll], by simp [PyData.leavesShortAll], by simp [PyData.weightAll], by simp [PyData.depthAll]⟩
theorem sz_cons {k a b : Nat} {d : PyData} {ds : List PyData} (h : Sz k a d) (t : SzAll k b ds) : SzAll k (a + 1 + b) (d :: ds) := by
  refine ⟨by simp [PyData.showableAll, h.sh, t.sh], by simp [PyData.leavesShortAll, h.ls, t.ls], ?_, ?_⟩
  · have := h.wt
    have := t.wt
    simp only [PyData.weightAll]
    omega
  · have := h.dp
    have := t.dp
    simp only [PyData.depthAll]
    omega
theorem sz_list {k n : Nat} {ds : List PyData} (t : SzAll k n ds) : Sz (k + 1) n (.list ds) :=
  ⟨by simp [PyData.showable, t.sh], by simp [PyData.leavesShort, t.ls], by simp [PyData.weight, t.wt], by have := t.dp; simp only [PyData.depth]; omega⟩
theorem sz_tup {k n : Nat} {ds : List PyData} (t : SzAll k n ds) : Sz (k + 1) n (.tuple ds) :=
  ⟨by simp [PyData.showable, t.sh], by simp [PyData.leavesShort, t.ls], by simp [PyData.weight, t.wt], by have := t.dp; simp only [PyData.depth]; omega⟩
theorem sz_d0 {k : Nat} : Sz (k + 1) 0 (.dict []) := ⟨by simp [PyData.showable, PyData.showableKv], by simp [PyData.leavesShort, PyData.leavesShortKv], by simp [PyData.weight, PyData.weightKv], by simp [PyData.depth, PyData.depthKv]⟩
theorem sz_d1 {k : Nat} {i j : Int} (a : -(2 ^ 200) < i) (b : i < 2 ^ 200) (c : -(2 ^ 200) < j) (d : j < 2 ^ 200) : Sz (k + 1) 404 (.dict [(.int i, .int j)]) := by
  have x := sm_int (k := 0) a b
  have y := sm_int (k := 0) c d
  refine ⟨by simp only [PyData.showable, PyData.showableKv] at x y ⊢; rw [show decide (i.natAbs.log2 < 1920) = true by have := x.sh; simpa [PyData.showable] using this, show decide (j.natAbs.log2 < 1920) = true by have := y.sh; simpa [PyData.showable] using this]; rfl,
    by simp only [PyData.leavesShort, PyData.leavesShortKv]; rw [show decide ((PyData.shown (.int i)).length ≤ 250) = true by have := x.ls; simpa only [PyData.leavesShort] using this, show decide ((PyData.shown (.int j)).length ≤ 250) = true by have := y.ls; simpa only [PyData.leavesShort] using this]; rfl, ?_, ?_⟩
  · have := x.wt
    have := y.wt
    simp only [PyData.weight, PyData.weightKv] at *
    omega
  · simp [PyData.depth, PyData.depthKv]
theorem Sz.text {k n : Nat} {d : PyData} (h : Sz k n d) (hn : n ≤ 50000) : d.shown.length ≤ sizeLine := by
  have e := PyData.shown_le 250 (by decide) d h.ls
  have w := h.wt
  rw [sizeLine_eq]
  omega
theorem rd_reprZ {H : Hp} {Q : VK} {v : V} {d : PyData} {k n : Nat} (h : Dz H v d) (s : Sz k n d) (hk : k ≤ 60) (hn : n ≤ 50000) (q : Q (.str d.shown) H) : rReprZ [v] H Q := by
  refine ⟨v, d, rfl, h, s.sh, by have := s.dp; omega, s.text hn, fun i e => ?_, q⟩
  subst e
  cases h
  have z := s.sh
  simp only [PyData.showable, decide_eq_true_eq] at z
  exact z
/-- a list's display, told that it is no module table -/
def tLstN (t : TA) : TE := fun σ H Q => t σ H fun xs H1 => xs.length ≤ sizeLine ∧ ∀ p, p ≠ sysModules → H1 p = none → Q (.ref p) (upd H1 p (.lst xs))
theorem pe_lstN {X : Cx} {es : List Expr} {t : TA} {pos : Pos} (h : PA X es t) : PE X (.List es pos) (tLstN t) := by
  constructor
  intro pins s σ H Q I hq
  refine wpAny_List_spliced (thn (h.run pos pins s σ H _ I hq) fun us s1 z => ?_)
  obtain ⟨xs, H1, J, r, z, q⟩ := z
  have fresh := J.hok.fresh (Nat.le_refl s1.heap.objs.size)
  exact ⟨r.length ▸ z, .ref s1.heap.objs.size, upd H1 s1.heap.objs.size (.lst xs), J.laid (t' := s1.toks) (fun _ _ e => Heap.get?_push_of_some _ e) (Nat.le_refl _) ⟨z, us, 0, r, Heap.get?_push_size _ rfl⟩, rfl, q _ (Nat.ne_of_gt J.big) fresh⟩
section
variable {K : PySem.W.Frag} {H : Hp} {p : Addr}
theorem rd_for {wi : TI} {g : TG} {tb : TS} {D : Ends} {σ : L2.St} (k : wi σ H fun J H1 => ∃ W : Nat → Nat → L2.St → Hp → Prop, (∃ m, W 0 m σ H1) ∧ ∀ i m σ H, W i m σ H →
  (J.stop i H ∧ D.nx σ H) ∨ (J.go i H ∧ ∃ N : L2.St → Hp → Prop, (∀ σ' H', N σ' H' → ∃ m', m' < m ∧ W (i + 1) m' σ' H') ∧ ∀ x H', J.yld i H x H' → g x σ H' fun σ2 H2 => tb { D with nx := N, ct := N, bk := D.nx } σ2 H2)) : tFor wi g tb D σ H := k
theorem rd_iT {tl : TE} {σ : L2.St} {R : It → Hp → Prop} (k : tl σ H fun x H1 => ∃ a, x = .ref a ∧ (∃ xs, SqT K H1 a xs) ∧ R (Itt K a) H1) : iTup K tl σ H R := k
theorem rd_iL {tl : TE} {σ : L2.St} {R : It → Hp → Prop} (k : tl σ H fun x H1 => ∃ a, x = .ref a ∧ (∃ xs, SqL K H1 a xs) ∧ R (Itl K a) H1) : iList K tl σ H R := k
theorem rd_iTa {xs : List V} {R : Addr → Prop} (h : H p = some (.tup xs)) (k : R p) : ∃ a, V.ref p = .ref a ∧ (∃ xs, SqT K H a xs) ∧ R a := ⟨p, rfl, ⟨xs, SqT.of h⟩, k⟩
theorem rd_iLa {xs : List V} {R : Addr → Prop} (h : H p = some (.lst xs)) (k : R p) : ∃ a, V.ref p = .ref a ∧ (∃ xs, SqL K H a xs) ∧ R a := ⟨p, rfl, ⟨xs, SqL.of h⟩, k⟩
theorem rd_rng2 {tA : TA} {σ : L2.St} {R : It → Hp → Prop} (k : tA σ H fun vs H1 => ∃ i j : Int, vs = [.int i, .int j] ∧ (-(2 ^ 62) ≤ i ∧ i < 2 ^ 62 ∧ -(2 ^ 62) ≤ j ∧ j < 2 ^ 62) ∧ R (Itr i (j - i).toNat) H1) : iRng2 tA σ H R := k
theorem rd_rng1 {tA : TA} {σ : L2.St} {R : It → Hp → Prop} (k : tA σ H fun vs H1 => ∃ j : Int, vs = [.int j] ∧ -(2 ^ 62) ≤ j ∧ j < 2 ^ 62 ∧ R (Itr 0 j.toNat) H1) : iRng1 tA σ H R := k
theorem Pot.same {H H' : Hp} {p : Addr} {n : Nat} (h : Pot H p n) (s : Same H H') : Pot H' p n := by
  obtain ⟨x, z, c, a, b⟩ := h
  exact ⟨x, z, c, s _ _ a, b⟩
theorem rep_snoc {α : Type} (i : Nat) (x : α) : List.replicate i x ++ [x] = List.replicate (i + 1) x := by
  rw [List.replicate_succ']
theorem all_rep (i : Nat) : (List.replicate i true).all id = true := by
  induction i with
  | zero => rfl
  | succ n ih => rw [List.replicate_succ, List.all_cons, ih]; rfl
end
section
variable {P : Program} {w : World} {K : PySem.W.Frag} {mg : Str → Option Value} {base : Heap}
/-! ### worlds: what their parts must be -/
abbrev s_is_name : Stmt := (top 14)
abbrev N_is_name : List Str := ["value"]
abbrev P_is_name : List Str := ["value"]
theorem sc_is_name : FnScope N_is_name P_is_name (defScope s_is_name) := ⟨rfl, rfl, rfl, by decide +kernel, rfl, by decide +kernel, by decide +kernel⟩
abbrev s_is_tuple_of : Stmt := (top 15)
abbrev N_is_tuple_of : List Str := ["value", "least", "most"]
abbrev P_is_tuple_of : List Str := ["value", "least", "most"]
theorem sc_is_tuple_of : FnScope N_is_tuple_of P_is_tuple_of (defScope s_is_tuple_of) := ⟨rfl, rfl, rfl, by decide +kernel, rfl, by decide +kernel, by decide +kernel⟩
abbrev s_is_ascending : Stmt := (top 16)
abbrev N_is_ascending : List Str := ["items", "one", "other"]
abbrev P_is_ascending : List Str := ["items"]
theorem sc_is_ascending : FnScope N_is_ascending P_is_ascending (defScope s_is_ascending) := ⟨rfl, rfl, rfl, by decide +kernel, rfl, by decide +kernel, by decide +kernel⟩
abbrev s__are_kinds : Stmt := (top 42)
abbrev N__are_kinds : List Str := ["narrow", "wide"]
abbrev P__are_kinds : List Str := ["narrow", "wide"]
theorem sc__are_kinds : FnScope N__are_kinds P__are_kinds (defScope s__are_kinds) := ⟨rfl, rfl, rfl, by decide +kernel, rfl, by decide +kernel, by decide +kernel⟩
abbrev s__are_columns : Stmt := (top 43)
abbrev N__are_columns : List Str := ["columns", "column"]
abbrev P__are_columns : List Str := ["columns"]
theorem sc__are_columns : FnScope N__are_columns P__are_columns (defScope s__are_columns) := ⟨rfl, rfl, rfl, by decide +kernel, rfl, by decide +kernel, by decide +kernel⟩
abbrev s__is_read : Stmt := (top 48)
abbrev N__is_read : List Str := ["row", "_", "side", "deeds", "deed"]
abbrev P__is_read : List Str := ["row"]
theorem sc__is_read : FnScope N__is_read P__is_read (defScope s__is_read) := ⟨rfl, rfl, rfl, by decide +kernel, rfl, by decide +kernel, by decide +kernel⟩
abbrev s__is_write : Stmt := (top 49)
abbrev N__is_write : List Str := ["sources", "row", "column", "how", "rule", "source", "pace"]
abbrev P__is_write : List Str := ["sources", "row"]
theorem sc__is_write : FnScope N__is_write P__is_write (defScope s__is_write) := ⟨rfl, rfl, rfl, by decide +kernel, rfl, by decide +kernel, by decide +kernel⟩
abbrev s__is_first_edition : Stmt := (top 50)
abbrev N__is_first_edition : List Str := ["edition", "_", "reads", "writes", "row"]
abbrev P__is_first_edition : List Str := ["edition"]
theorem sc__is_first_edition : FnScope N__is_first_edition P__is_first_edition (defScope s__is_first_edition) := ⟨rfl, rfl, rfl, by decide +kernel, rfl, by decide +kernel, by decide +kernel⟩

/-- a tuple of texts at the module's top -/
structure GlobT (K : PySem.W.Frag) (mg : Str → Option Value) (nm : Str) (a : Addr) (xs : List Str) : Prop where
  g : mg nm = some (.ref a)
  t : ∀ H, SqT K H a (xs.map V.str)
structure TxtW (mg : Str → Option Value) (t1 t2 t3 t4 : Tok) : Prop where
  g_MOST_LETTERS : mg "MOST_LETTERS" = some (.int 8 t1)
  g_LEAST_NARROW : mg "LEAST_NARROW" = some (.int 16 t2)
  g_MOST_PACE : mg "MOST_PACE" = some (.int 99 t3)
  g_MOST_IN_TWO_EVENTS : mg "MOST_IN_TWO_EVENTS" = some (.int 2 t4)
theorem sqt_same {K : PySem.W.Frag} {H H' : Hp} {a : Addr} {xs : List V} (h : SqT K H a xs) (s : Same H H') : SqT K H' a xs := by
  rcases h with (h | ⟨o, h⟩) | h
  · exact .inl (.inl (s _ _ h))
  · exact .inl (.inr ⟨o, s _ _ h⟩)
  · exact .inr h
theorem sql_same {K : PySem.W.Frag} {H H' : Hp} {a : Addr} {xs : List V} (h : SqL K H a xs) (s : Same H H') : SqL K H' a xs := by
  rcases h with (h | ⟨o, h⟩) | h
  · exact .inl (.inl (s _ _ h))
  · exact .inl (.inr ⟨o, s _ _ h⟩)
  · exact .inr h
/-- [f(x) for x in t], item by item -/
theorem lc_tupV {K : PySem.W.Frag} {a : Addr} {xs : List V} {α : Type} {l : List α} (gV : α → V) {g : TG} {te : TE} {vs : List Nat} {σ : L2.St} {H1 : Hp} {D : Addr} {Qd : Hp → Prop} (hx : SqT K H1 a xs) (hD : H1 D = none) (hl : xs.length = l.length) (few1 : l.length ≤ 1000)
    (hs : ∀ (i : Nat) (x : V) (e : α) (H : Hp) (Q' : VK), xs[i]? = some x → l[i]? = some e → Same H1 H → (∀ H', Same H H' → Q' (gV e) H') → g x (wipe σ vs) H fun σ2 H2 => wipe σ2 vs = wipe σ vs ∧ te σ2 H2 Q')
    (hd : ∀ H, Same H1 H → H D = some (.lst (l.map gV)) → Qd H) :
    ∃ W : Nat → Nat → Hp → Prop, (∃ m, W 0 m (upd H1 D (.lst []))) ∧ ∀ i m H, W i m H →
      ((Itt K a).stop i H ∧ Qd H) ∨ ((Itt K a).go i H ∧ ∃ Nx : Hp → Prop, (∀ H', Nx H' → ∃ m', m' < m ∧ W (i + 1) m' H') ∧ ∀ x H', (Itt K a).yld i H x H' → g x (wipe σ vs) H' fun σ2 H2 => wipe σ2 vs = wipe σ vs ∧ tYes σ2 H2 fun b H3 =>
        if b = true then te σ2 H3 fun y H4 => ∃ acc, H4 D = some (.lst acc) ∧ acc.length < sizeLine ∧ Nx (upd H4 D (.lst (acc ++ [y]))) else Nx H3) := by
  have sz := sizeLine_eq
  refine lc_tup (xs := xs) (fun i H => Same H1 H ∧ H D = some (.lst ((l.take i).map gV))) ⟨same_new hD, upd_same⟩ (fun i H _ q => sqt_same hx q.1) ?_ (fun H q => ?_)
  · rintro i x H hi ⟨S, hL⟩
    have lt : i < l.length := by
      rw [← hl]
      exact (List.getElem?_eq_some_iff.mp hi).1
    have he : l[i]? = some l[i] := List.getElem?_eq_getElem lt
    simp only [tYes, ↓reduceIte]
    refine hs i x l[i] H _ hi he S (fun H' S' => ?_)
    refine ⟨_, S' _ _ hL, ?_, fun b o e => (upd_ne (ne_of_none e hD)).trans (S' _ _ (S _ _ e)), ?_⟩
    · rw [List.length_map, List.length_take]
      omega
    · rw [List.take_succ, he, List.map_append]
      exact upd_same
  · rw [hl, List.take_length] at q
    exact hd H q.1 q.2
theorem all_of {K : PySem.W.Frag} {H : Hp} {Q : VK} {D : Addr} {α : Type} {l : List α} {f : α → Bool} (h : H D = some (.lst (l.map fun e => V.bl (f e)))) (k : Q (.bl (l.all f)) H) : rAll K [.ref D] H Q := by
  refine ⟨D, l.map f, rfl, SqL.of (by rw [List.map_map]; exact h), ?_⟩
  rw [show (l.map f).all id = l.all f by rw [List.all_map]; rfl]
  exact k
def nameB (x : Str) : Bool := !decide (8 < (x.length : Int)) && (Txt.isascii x && (Txt.isalpha x && Txt.islower x))
def spName : Sp := fun vs H Q _ => ∃ x : Str, vs = [.str x] ∧ x.length ≤ 1000 ∧ Q (.bl (nameB x)) H
theorem ok_name {f : Addr} {fd : FuncData} {t1 t2 t3 t4 : Tok} (F : Fun K "is_name" "is_name" s_is_name f fd) (T : Txt mg) (n_str : mg "str" = none) (TB : TxtW mg t1 t2 t3 t4) : FnOk P w K mg base CX0 1 f fd P_is_name spName := by
  refine F.ok sc_is_name (fun vs H Q E h => ?_) (fun cdv A outer s H vs Q E hr h => ?_)
  · obtain ⟨x, rfl, _⟩ := h
    rfl
  · obtain ⟨x, rfl, len, k⟩ := h
    have sz := sizeLine_eq
    refine ⟨_, (pss_cons (ps_if (PW.pt (pw_or (pt_not (pt_val (pe_callB call_isi (by rfl) T.n_isinstance (by decide +kernel) (pa_cons (pv 0) (pa_cons (pe_bltn (v := .ty "str") (by rfl) n_str (by decide +kernel) rfl) pa_nil))))) (pw_or1 (pt_cmpR op_gt (pe_callB call_len_str (by rfl) T.n_len (by decide +kernel) (pa_cons (pv 0) pa_nil)) (pe_glob (v := .int 8) rfl TB.g_MOST_LETTERS ⟨_, rfl⟩) (nomark _))))) (pss_one (ps_ret pe_bl)) pss_nil)
      (pss_one (ps_ret (pe_and (pe_m0 PySem.F.slot_str_isascii PySem.F.type_str_isascii mt_isascii (pv 0)) (pe_and (pe_m0 PySem.F.slot_str_isalpha PySem.F.type_str_isalpha mt_isalpha (pv 0)) (pe_one (pe_m0 PySem.F.slot_str_islower PySem.F.type_str_islower mt_islower (pv 0)))))))), ?_⟩
    unfold tM0
    fail "z run"
    refine rd_isi (.base (.str x)) (b := true) (by decide +kernel) ?_
    fail "z run"
    refine iteF ?_
    fail "z run"
    refine ⟨_, rfl, by omega, ?_⟩
    fail "z run"
    unfold nameB at k
    refine rd_iteB (fun c => ?_) (fun c => ?_)
    · fail "z run"
      rw [c] at k
      exact k
    · fail "z run"
      rw [c, show (!false) = true from rfl, Bool.true_and] at k
      refine ⟨⟨_, rfl⟩, _, rfl, rfl, trivial, ?_⟩
      fail "z run"
      refine rd_iteB (fun c1 => ?_) (fun c1 => ?_)
      · fail "z run"
        rw [c1, Bool.true_and] at k
        refine ⟨⟨_, rfl⟩, _, rfl, rfl, trivial, ?_⟩
        fail "z run"
        refine rd_iteB (fun c2 => ?_) (fun c2 => ?_)
        · fail "z run"
          rw [c2, Bool.true_and] at k
          exact ⟨⟨_, rfl⟩, _, rfl, rfl, trivial, k⟩
        · rw [c2, Bool.false_and] at k
          exact k
      · rw [c1, Bool.false_and] at k
        exact k
/-- whether any value is a tuple of so many -/
def tupB (H : Hp) (v : V) (lo hi : Int) (b : Bool) : Prop := (∃ a xs, v = .ref a ∧ H a = some (.tup xs) ∧ b = (decide (lo ≤ xs.length) && decide ((xs.length : Int) ≤ hi))) ∨ ((∀ a xs, v = .ref a → H a ≠ some (.tup xs)) ∧ b = false)
def spTupOf : Sp := fun vs H Q _ => ∃ (v : V) (lo hi : Int), vs = [v, .int lo, .int hi] ∧ Plain H v ∧ ∀ b, tupB H v lo hi b → Q (.bl b) H
theorem rd_isiT' {H : Hp} {Q : VK} {v : V} (p : Plain H v) (k1 : ∀ a xs, v = .ref a → H a = some (.tup xs) → Q (.bl true) H) (k2 : (∀ a xs, v = .ref a → H a ≠ some (.tup xs)) → Q (.bl false) H) : rIsi K [v, .ty "tuple"] H Q := by
  cases p with
  | non => exact rd_isi (.base .non) (by decide +kernel) (k2 fun a xs z => nomatch z)
  | bl b => exact rd_isi (.base (.bl b)) (by decide +kernel) (k2 fun a xs z => nomatch z)
  | int i => exact rd_isi (.base (.int i)) (by decide +kernel) (k2 fun a xs z => nomatch z)
  | str x => exact rd_isi (.base (.str x)) (by decide +kernel) (k2 fun a xs z => nomatch z)
  | lst e => exact rd_isi (.base (.lst e)) (by decide +kernel) (k2 fun a xs z => by cases z; rw [e]; exact fun q => nomatch q)
  | tup e => exact rd_isi (.base (.tup e)) (by decide +kernel) (k1 _ _ rfl e)
  | dK e => exact rd_isi (.base (.dK e)) (by decide +kernel) (k2 fun a xs z => by cases z; rw [e]; exact fun q => nomatch q)
theorem ok_tupof {f : Addr} {fd : FuncData} (F : Fun K "is_tuple_of" "is_tuple_of" s_is_tuple_of f fd) (T : Txt mg) : FnOk P w K mg base CX0 1 f fd P_is_tuple_of spTupOf := by
  refine F.ok sc_is_tuple_of (fun vs H Q E h => ?_) (fun cdv A outer s H vs Q E hr h => ?_)
  · obtain ⟨v, lo, hi, rfl, _⟩ := h
    rfl
  · obtain ⟨v, lo, hi, rfl, p, k⟩ := h
    refine ⟨_, (pss_one (ps_ret (pe_and (pe_callB call_isi (by rfl) T.n_isinstance (by decide +kernel) (pa_cons (pv 0) (pa_cons (pe_bltn (v := .ty "tuple") (by rfl) T.n_tuple (by decide +kernel) rfl) pa_nil))) (pe_one (pe_chain op_le op_le (pv 1) (pe_callB call_len_seq (by rfl) T.n_len (by decide +kernel) (pa_cons (pv 0) pa_nil)) (pv 2)))))), ?_⟩
    fail "z run"
    refine rd_isiT' p (fun a xs e ea => ?_) (fun no => ?_)
    · subst e
      have z := k _ (.inl ⟨a, xs, rfl, ea, rfl⟩)
      fail "z run"
      refine rd_iteB (fun c => ?_) (fun c => ?_)
      · rw [c, Bool.true_and] at z
        fail "z run"
        exact z
      · rw [c, Bool.false_and] at z
        exact z
    · fail "z run"
      exact k _ (.inr ⟨no, rfl⟩)
theorem lc_zipT {K : PySem.W.Frag} {a b : Addr} {xs ys : List V} {α : Type} {l : List α} (gV : α → V) {g : TG} {te : TE} {vs : List Nat} {σ : L2.St} {H1 : Hp} {D : Addr} {Qd : Hp → Prop} (hx : SqT K H1 a xs) (hy : SqT K H1 b ys) (hD : H1 D = none) (hl : l.length = min xs.length ys.length) (few1 : l.length ≤ 1000)
    (hs : ∀ (i : Nat) (x y : V) (e : α) (t : Addr) (H : Hp) (Q' : VK), xs[i]? = some x → ys[i]? = some y → l[i]? = some e → Same H1 H → H t = some (.tup [x, y]) → (∀ H', Same H H' → Q' (gV e) H') → g (.ref t) (wipe σ vs) H fun σ2 H2 => wipe σ2 vs = wipe σ vs ∧ te σ2 H2 Q')
    (hd : ∀ H, Same H1 H → H D = some (.lst (l.map gV)) → Qd H) :
    ∃ W : Nat → Nat → Hp → Prop, (∃ m, W 0 m (upd H1 D (.lst []))) ∧ ∀ i m H, W i m H →
      ((RZ.ItzT K a b).stop i H ∧ Qd H) ∨ ((RZ.ItzT K a b).go i H ∧ ∃ Nx : Hp → Prop, (∀ H', Nx H' → ∃ m', m' < m ∧ W (i + 1) m' H') ∧ ∀ x H', (RZ.ItzT K a b).yld i H x H' → g x (wipe σ vs) H' fun σ2 H2 => wipe σ2 vs = wipe σ vs ∧ tYes σ2 H2 fun b H3 =>
        if b = true then te σ2 H3 fun y H4 => ∃ acc, H4 D = some (.lst acc) ∧ acc.length < sizeLine ∧ Nx (upd H4 D (.lst (acc ++ [y]))) else Nx H3) := by
  have sz := sizeLine_eq
  refine ⟨fun i m H => m = l.length - i ∧ i ≤ l.length ∧ Same H1 H ∧ H D = some (.lst ((l.take i).map gV)), ⟨l.length, by simp, Nat.zero_le _, same_new hD, upd_same⟩, ?_⟩
  rintro i m H ⟨rfl, hi, S, hL⟩
  have qx := sqt_same hx S
  have qy := sqt_same hy S
  by_cases lt : i < l.length
  · have ix : i < xs.length := by omega
    have iy : i < ys.length := by omega
    refine .inr ⟨⟨xs, ys, xs[i], ys[i], qx, qy, List.getElem?_eq_getElem ix, List.getElem?_eq_getElem iy⟩, fun H' => Same H1 H' ∧ H' D = some (.lst ((l.take (i + 1)).map gV)), fun H' p' => ⟨l.length - (i + 1), by omega, rfl, lt, p'.1, p'.2⟩, fun v H' y => ?_⟩
    obtain ⟨t, x, y, ev, nt, eH, e1, e2⟩ := y
    subst ev eH
    have S2 := S.trans (same_new (o := .tup [x, y]) nt)
    simp only [tYes, ↓reduceIte]
    refine hs i x y l[i] t _ _ (e1 xs qx) (e2 ys qy) (List.getElem?_eq_getElem lt) S2 upd_same (fun H' S' => ?_)
    refine ⟨_, S' _ _ (same_new nt _ _ hL), ?_, fun b o e => (upd_ne (ne_of_none e hD)).trans (S' _ _ (S2 _ _ e)), ?_⟩
    · rw [List.length_map, List.length_take]
      omega
    · rw [List.take_succ, List.getElem?_eq_getElem lt, List.map_append]
      exact upd_same
  · have e : i = l.length := by omega
    subst e
    rw [List.take_length] at hL
    exact .inl ⟨⟨xs, ys, qx, qy, by omega⟩, hd H S hL⟩
theorem lc_zipL {K : PySem.W.Frag} {a b : Addr} {xs ys : List V} {α : Type} {l : List α} (gV : α → V) {g : TG} {te : TE} {vs : List Nat} {σ : L2.St} {H1 : Hp} {D : Addr} {Qd : Hp → Prop} (hx : SqL K H1 a xs) (hy : SqL K H1 b ys) (hD : H1 D = none) (hl : l.length = min xs.length ys.length) (few1 : l.length ≤ 1000)
    (hs : ∀ (i : Nat) (x y : V) (e : α) (t : Addr) (H : Hp) (Q' : VK), xs[i]? = some x → ys[i]? = some y → l[i]? = some e → Same H1 H → H t = some (.tup [x, y]) → (∀ H', Same H H' → Q' (gV e) H') → g (.ref t) (wipe σ vs) H fun σ2 H2 => wipe σ2 vs = wipe σ vs ∧ te σ2 H2 Q')
    (hd : ∀ H, Same H1 H → H D = some (.lst (l.map gV)) → Qd H) :
    ∃ W : Nat → Nat → Hp → Prop, (∃ m, W 0 m (upd H1 D (.lst []))) ∧ ∀ i m H, W i m H →
      ((Itz K a b).stop i H ∧ Qd H) ∨ ((Itz K a b).go i H ∧ ∃ Nx : Hp → Prop, (∀ H', Nx H' → ∃ m', m' < m ∧ W (i + 1) m' H') ∧ ∀ x H', (Itz K a b).yld i H x H' → g x (wipe σ vs) H' fun σ2 H2 => wipe σ2 vs = wipe σ vs ∧ tYes σ2 H2 fun b H3 =>
        if b = true then te σ2 H3 fun y H4 => ∃ acc, H4 D = some (.lst acc) ∧ acc.length < sizeLine ∧ Nx (upd H4 D (.lst (acc ++ [y]))) else Nx H3) := by
  have sz := sizeLine_eq
  refine ⟨fun i m H => m = l.length - i ∧ i ≤ l.length ∧ Same H1 H ∧ H D = some (.lst ((l.take i).map gV)), ⟨l.length, by simp, Nat.zero_le _, same_new hD, upd_same⟩, ?_⟩
  rintro i m H ⟨rfl, hi, S, hL⟩
  have qx := sql_same hx S
  have qy := sql_same hy S
  by_cases lt : i < l.length
  · have ix : i < xs.length := by omega
    have iy : i < ys.length := by omega
    refine .inr ⟨⟨xs, ys, xs[i], ys[i], qx, qy, List.getElem?_eq_getElem ix, List.getElem?_eq_getElem iy⟩, fun H' => Same H1 H' ∧ H' D = some (.lst ((l.take (i + 1)).map gV)), fun H' p' => ⟨l.length - (i + 1), by omega, rfl, lt, p'.1, p'.2⟩, fun v H' y => ?_⟩
    obtain ⟨t, x, y, ev, nt, eH, e1, e2⟩ := y
    subst ev eH
    have S2 := S.trans (same_new (o := .tup [x, y]) nt)
    simp only [tYes, ↓reduceIte]
    refine hs i x y l[i] t _ _ (e1 xs qx) (e2 ys qy) (List.getElem?_eq_getElem lt) S2 upd_same (fun H' S' => ?_)
    refine ⟨_, S' _ _ (same_new nt _ _ hL), ?_, fun b o e => (upd_ne (ne_of_none e hD)).trans (S' _ _ (S2 _ _ e)), ?_⟩
    · rw [List.length_map, List.length_take]
      omega
    · rw [List.take_succ, List.getElem?_eq_getElem lt, List.map_append]
      exact upd_same
  · have e : i = l.length := by omega
    subst e
    rw [List.take_length] at hL
    exact .inl ⟨⟨xs, ys, qx, qy, by omega⟩, hd H S hL⟩
abbrev cpl (x : Str) : List Nat := x.cps.toList
def ascS (l : List Str) : Bool := (l.zip (l.drop 1)).all fun p => decide (cpl p.1 < cpl p.2)
theorem cut_one (xs : List V) : cutV xs (some 1) none = xs.drop 1 := by
  unfold cutV
  have e1 : HT.sIx xs.length xs.length none = xs.length := rfl
  have e2 : HT.sIx xs.length 0 (some 1) = min 1 xs.length := rfl
  rw [e1, e2]
  cases xs with
  | nil => rfl
  | cons c r =>
    rw [show min 1 (c :: r).length = 1 by simp]
    exact List.take_of_length_le (by simp)
theorem zip_len (l : List Str) : (l.zip (l.drop 1)).length = min (l.map V.str).length ((l.map V.str).drop 1).length := by
  simp [List.length_zip]
theorem zip_at {l : List Str} {i : Nat} {x y : V} {e : Str × Str} (hx : (l.map V.str)[i]? = some x) (hy : ((l.map V.str).drop 1)[i]? = some y) (he : (l.zip (l.drop 1))[i]? = some e) : x = .str e.1 ∧ y = .str e.2 := by
  rw [List.getElem?_map] at hx
  rw [← List.map_drop, List.getElem?_map] at hy
  rw [List.getElem?_zip_eq_some] at he
  rw [he.1] at hx
  rw [he.2] at hy
  exact ⟨(Option.some.inj hx).symm, (Option.some.inj hy).symm⟩
def spAscT (K : PySem.W.Frag) : Sp := fun vs H Q _ => ∃ (a : Addr) (l : List Str), vs = [.ref a] ∧ SqT K H a (l.map V.str) ∧ l.length ≤ 900 ∧ ∀ H', Same H H' → Q (.bl (ascS l)) H'
def spAscL (K : PySem.W.Frag) : Sp := fun vs H Q _ => ∃ (a : Addr) (l : List Str), vs = [.ref a] ∧ SqL K H a (l.map V.str) ∧ l.length ≤ 900 ∧ ∀ H', Same H H' → Q (.bl (ascS l)) H'
theorem ok_ascT {f : Addr} {fd : FuncData} (F : Fun K "is_ascending" "is_ascending" s_is_ascending f fd) (T : Txt mg) (n_zip : mg "zip" = none) : FnOk P w K mg base CX0 1 f fd P_is_ascending (spAscT K) := by
  refine F.ok sc_is_ascending (fun vs H Q E h => ?_) (fun cdv A outer s H vs Q E hr h => ?_)
  · obtain ⟨a, l, rfl, _⟩ := h
    rfl
  · obtain ⟨a, l, rfl, ha, few1, k⟩ := h
    refine ⟨_, (pss_one (ps_ret (pe_callB (cr_all rfl) (by rfl) T.n_all (by decide +kernel) (pa_cons (pe_lc (own := [("one", 1), ("other", 2)]) (g := gTup _ 2 (gCons (gName 1) (gCons (gName 2) gNil))) (tt := tYes) rfl sc_is_ascending.nd (RZ.pi_zipA rfl n_zip (pa_cons (pv 0) (pa_cons (pe_slice sl_tupA (pv 0) (po_some pe_int) po_none) pa_nil))) (blkOk_by (N := N_is_ascending) (sc := defScope s_is_ascending) (by decide +kernel)) (fun _ _ _ _ _ => (pg_tup rfl (pgs_cons (pg_name (i := 1) sc_is_ascending.nd rfl (Or.inl rfl)) (pgs_cons (pg_name (i := 2) sc_is_ascending.nd rfl (Or.inl rfl)) pgs_nil)))) (fun _ _ _ _ _ => pts_nil) (fun _ _ _ _ _ => (pe_cmpR op_lt_str (pv 1) (pv 2) (nomark _)))) pa_nil)))), ?_⟩
    unfold tLc RZ.iZipA tSl tNoPart tPart
    fail "z run"
    refine ⟨1, rfl, ?_⟩
    fail "z run"
    refine ⟨a, _, rfl, ha, fun wh => ?_, fun _ p np => ?_⟩
    · have hb : SqT K H a ((l.map V.str).drop 1) := by
        have e : l.map V.str = [] := by
          have z : min 1 (l.map V.str).length = 0 := wh.1
          exact List.length_eq_zero_iff.mp (by omega)
        rw [e] at ha ⊢
        exact ha
      fail "z run"
      refine ⟨a, a, _, _, rfl, .inr ⟨ha, hb, fun D hD => lc_zipT (fun p : Str × Str => V.bl (decide (cpl p.1 < cpl p.2))) ha hb hD (zip_len l) (by rw [zip_len]; simp; omega) ?_ ?_⟩⟩
      · intro i x y e t H2 Q' hx hy he S ht kq
        obtain ⟨rfl, rfl⟩ := zip_at hx hy he
        refine rd_gtup ht rfl ?_
        fail "z run"
        refine ⟨rfl, ?_⟩
        fail "z run"
        exact ⟨_, _, rfl, rfl, kq _ (Same.refl _)⟩
      · intro H2 S hL
        fail "z run"
        refine all_of hL ?_
        exact k _ ((Same.refl H).trans S)
    · rw [cut_one]
      have hb : SqT K (upd H p (.tup ((l.map V.str).drop 1))) p ((l.map V.str).drop 1) := SqT.of upd_same
      have ha := sqt_same ha (same_new (o := .tup ((l.map V.str).drop 1)) np)
      fail "z run"
      refine ⟨a, p, _, _, rfl, .inr ⟨ha, hb, fun D hD => lc_zipT (fun p : Str × Str => V.bl (decide (cpl p.1 < cpl p.2))) ha hb hD (zip_len l) (by rw [zip_len]; simp; omega) ?_ ?_⟩⟩
      · intro i x y e t H2 Q' hx hy he S ht kq
        obtain ⟨rfl, rfl⟩ := zip_at hx hy he
        refine rd_gtup ht rfl ?_
        fail "z run"
        refine ⟨rfl, ?_⟩
        fail "z run"
        exact ⟨_, _, rfl, rfl, kq _ (Same.refl _)⟩
      · intro H2 S hL
        fail "z run"
        refine all_of hL ?_
        exact k _ ((same_new np).trans S)
theorem ok_ascL {f : Addr} {fd : FuncData} (F : Fun K "is_ascending" "is_ascending" s_is_ascending f fd) (T : Txt mg) (n_zip : mg "zip" = none) : FnOk P w K mg base CX0 1 f fd P_is_ascending (spAscL K) := by
  refine F.ok sc_is_ascending (fun vs H Q E h => ?_) (fun cdv A outer s H vs Q E hr h => ?_)
  · obtain ⟨a, l, rfl, _⟩ := h
    rfl
  · obtain ⟨a, l, rfl, ha, few1, k⟩ := h
    refine ⟨_, (pss_one (ps_ret (pe_callB (cr_all rfl) (by rfl) T.n_all (by decide +kernel) (pa_cons (pe_lc (own := [("one", 1), ("other", 2)]) (g := gTup _ 2 (gCons (gName 1) (gCons (gName 2) gNil))) (tt := tYes) rfl sc_is_ascending.nd (RZ.pi_zipA rfl n_zip (pa_cons (pv 0) (pa_cons (pe_slice sl_list (pv 0) (po_some pe_int) po_none) pa_nil))) (blkOk_by (N := N_is_ascending) (sc := defScope s_is_ascending) (by decide +kernel)) (fun _ _ _ _ _ => (pg_tup rfl (pgs_cons (pg_name (i := 1) sc_is_ascending.nd rfl (Or.inl rfl)) (pgs_cons (pg_name (i := 2) sc_is_ascending.nd rfl (Or.inl rfl)) pgs_nil)))) (fun _ _ _ _ _ => pts_nil) (fun _ _ _ _ _ => (pe_cmpR op_lt_str (pv 1) (pv 2) (nomark _)))) pa_nil)))), ?_⟩
    unfold tLc RZ.iZipA tSl tNoPart tPart
    fail "z run"
    refine ⟨1, rfl, ?_⟩
    fail "z run"
    refine ⟨a, _, rfl, ha, fun p np => ?_⟩
    · rw [cut_one]
      have hb : SqL K (upd H p (.lst ((l.map V.str).drop 1))) p ((l.map V.str).drop 1) := SqL.of upd_same
      have ha := sql_same ha (same_new (o := .lst ((l.map V.str).drop 1)) np)
      fail "z run"
      refine ⟨a, p, _, _, rfl, .inl ⟨ha, hb, fun D hD => lc_zipL (fun p : Str × Str => V.bl (decide (cpl p.1 < cpl p.2))) ha hb hD (zip_len l) (by rw [zip_len]; simp; omega) ?_ ?_⟩⟩
      · intro i x y e t H2 Q' hx hy he S ht kq
        obtain ⟨rfl, rfl⟩ := zip_at hx hy he
        refine rd_gtup ht rfl ?_
        fail "z run"
        refine ⟨rfl, ?_⟩
        fail "z run"
        exact ⟨_, _, rfl, rfl, kq _ (Same.refl _)⟩
      · intro H2 S hL
        fail "z run"
        refine all_of hL ?_
        exact k _ ((same_new np).trans S)
/-! ### worlds: rows and columns -/
abbrev Rd := Str × Str × List Str
abbrev Wr := Str × Str × Str × Str × Int
abbrev Ed := Str × List Rd × List Wr
abbrev Pg := Str × List Ed
def IsStrs (H : Hp) (v : V) (l : List Str) : Prop := ∃ a, v = .ref a ∧ H a = some (.tup (l.map V.str))
def IsRd (H : Hp) (v : V) (r : Rd) : Prop := ∃ a d, v = .ref a ∧ H a = some (.tup [.str r.1, .str r.2.1, d]) ∧ IsStrs H d r.2.2
def IsWr (H : Hp) (v : V) (r : Wr) : Prop := ∃ a, v = .ref a ∧ H a = some (.tup [.str r.1, .str r.2.1, .str r.2.2.1, .str r.2.2.2.1, .int r.2.2.2.2])
def IsTupOf {α : Type} (P : Hp → V → α → Prop) (H : Hp) (v : V) (l : List α) : Prop := ∃ a xs, v = .ref a ∧ H a = some (.tup xs) ∧ xs.length = l.length ∧ ∀ (i : Nat) (x : V) (e : α), xs[i]? = some x → l[i]? = some e → P H x e
def IsEd (H : Hp) (v : V) (e : Ed) : Prop := ∃ a r w, v = .ref a ∧ H a = some (.tup [.str e.1, r, w]) ∧ IsTupOf IsRd H r e.2.1 ∧ IsTupOf IsWr H w e.2.2
def IsPg (H : Hp) (v : V) (p : Pg) : Prop := ∃ a es, v = .ref a ∧ H a = some (.tup [.str p.1, es]) ∧ IsTupOf IsEd H es p.2
section
variable {H H' : Hp} {v : V}
theorem IsStrs.same {l : List Str} (h : IsStrs H v l) (s : Same H H') : IsStrs H' v l := by
  obtain ⟨a, e, h⟩ := h
  exact ⟨a, e, s _ _ h⟩
theorem IsRd.same {r : Rd} (h : IsRd H v r) (s : Same H H') : IsRd H' v r := by
  obtain ⟨a, d, e, h, g⟩ := h
  exact ⟨a, d, e, s _ _ h, g.same s⟩
theorem IsWr.same {r : Wr} (h : IsWr H v r) (s : Same H H') : IsWr H' v r := by
  obtain ⟨a, e, h⟩ := h
  exact ⟨a, e, s _ _ h⟩
theorem IsTupOf.same {α : Type} {P : Hp → V → α → Prop} {l : List α} (hP : ∀ x e, P H x e → P H' x e) (h : IsTupOf P H v l) (s : Same H H') : IsTupOf P H' v l := by
  obtain ⟨a, xs, e, h, n, g⟩ := h
  exact ⟨a, xs, e, s _ _ h, n, fun i x e h1 h2 => hP x e (g i x e h1 h2)⟩
theorem IsEd.same {e : Ed} (h : IsEd H v e) (s : Same H H') : IsEd H' v e := by
  obtain ⟨a, r, w, e, h, g1, g2⟩ := h
  exact ⟨a, r, w, e, s _ _ h, g1.same (fun _ _ q => q.same s) s, g2.same (fun _ _ q => q.same s) s⟩
theorem IsPg.same {p : Pg} (h : IsPg H v p) (s : Same H H') : IsPg H' v p := by
  obtain ⟨a, es, e, h, g⟩ := h
  exact ⟨a, es, e, s _ _ h, g.same (fun _ _ q => q.same s) s⟩
end
def strIn (x : Str) (xs : List Str) : Bool := inV (.str x) (xs.map V.str)
theorem flat_strs (xs : List Str) : (xs.map V.str).all flatV = true := by
  rw [List.all_eq_true]
  intro v hv
  obtain ⟨x, _, rfl⟩ := List.mem_map.mp hv
  rfl
theorem rd_inT {K : PySem.W.Frag} {H : Hp} {Q : VK} {a : Addr} {x : Str} {xs : List Str} (h : SqT K H a (xs.map V.str)) (k : Q (.bl (strIn x xs)) H) : rIn K false (.str x) (.ref a) H Q := ⟨a, _, rfl, .inr h, rfl, flat_strs xs, k⟩
theorem rd_ninT {K : PySem.W.Frag} {H : Hp} {Q : VK} {a : Addr} {x : Str} {xs : List Str} (h : SqT K H a (xs.map V.str)) (k : Q (.bl (!strIn x xs)) H) : rIn K true (.str x) (.ref a) H Q := ⟨a, _, rfl, .inr h, rfl, flat_strs xs, k⟩
theorem rd_inL {K : PySem.W.Frag} {H : Hp} {Q : VK} {a : Addr} {x : Str} {xs : List Str} (h : SqL K H a (xs.map V.str)) (k : Q (.bl (strIn x xs)) H) : rIn K false (.str x) (.ref a) H Q := ⟨a, _, rfl, .inl h, rfl, flat_strs xs, k⟩
def kindsB (a b c d : Int) : Bool := ltB a b c d && decide (16 ≤ b - a + 1)
def spKinds (C : Addr) : Sp := fun vs H Q _ => ∃ (p q : Addr) (a b c d : Int), vs = [.ref p, .ref q] ∧ IsKind C H p a b ∧ IsKind C H q c d ∧ Q (.bl (kindsB a b c d)) H
theorem ok_kinds {f C : Addr} {fd : FuncData} {t1 t2 t3 t4 : Tok} (F : Fun K "_are_kinds" "_are_kinds" s__are_kinds f fd) (T : Txt mg) (TB : TxtW mg t1 t2 t3 t4) (KT : KindT K C) (KO : KindO K C) (g_Kind : mg "Kind" = some (.ref C)) (c_lt : CalN P w K mg base C 2 "__lt__" P_Kind___lt__ (spCmp C ltB)) :
    FnOk P w K mg base CX0 3 f fd P__are_kinds (spKinds C) := by
  obtain ⟨f_lt, fd_lt, o___lt__, G_Kind___lt__, b_Kind___lt__⟩ := c_lt
  refine F.ok sc__are_kinds (fun vs H Q E h => ?_) (fun cdv A outer s H vs Q E hr h => ?_)
  · obtain ⟨p, q, a, b, c, d, rfl, _⟩ := h
    rfl
  · obtain ⟨p, q, a, b, c, d, rfl, hp, hq, k⟩ := h
    refine ⟨_, (pss_cons (ps_if (PW.pt (pw_or (pt_not (pt_val (pe_callB call_isi (by rfl) T.n_isinstance (by decide +kernel) (pa_cons (pv 0) (pa_cons (pe_glob (v := .ref C) rfl g_Kind rfl) pa_nil))))) (pw_or1 (pt_not (pt_val (pe_callB call_isi (by rfl) T.n_isinstance (by decide +kernel) (pa_cons (pv 1) (pa_cons (pe_glob (v := .ref C) rfl g_Kind rfl) pa_nil)))))))) (pss_one (ps_ret pe_bl)) pss_nil)
      (pss_one (ps_ret (pe_and (pe_cmpR (op_cmpI (fun _ _ => rfl) o___lt__.at_ o___lt__.fn G_Kind___lt__ (hr.mono (by decide)) b_Kind___lt__ pass0) (pv 0) (pv 1) (nomark _)) (pe_one (pe_cmpR op_ge (pe_fld (pv 0) rfl) (pe_glob (v := .int 16) rfl TB.g_LEAST_NARROW ⟨_, rfl⟩) (nomark _))))))), ?_⟩
    fail "z run"
    refine rd_isOwn KO hp ?_
    fail "z run"
    refine iteF ?_
    fail "z run"
    refine rd_isOwn KO hq ?_
    fail "z run"
    refine iteF ?_
    fail "z run"
    refine rd_own hp hq ⟨p, q, a, b, c, d, rfl, hp, hq, ?_⟩
    fail "z run"
    obtain ⟨dx, ep⟩ := id hp
    refine rd_both (d := decide (16 ≤ b - a + 1)) (fun Q' k' => ?_) k
    fail "z run"
    refine ⟨_, _, _, _, _, rfl, ep, KT.cl, KT.n_size, kf_size _ _, ?_⟩
    fail "z run"
    exact k'
def colsB (l : List Str) : Bool := (decide ((1 : Int) ≤ l.length) && decide ((l.length : Int) ≤ 3)) && (l.all nameB && ascS l)
def spCols : Sp := fun vs H Q _ => ∃ (v : V) (l : List Str), vs = [v] ∧ IsStrs H v l ∧ l.length ≤ 900 ∧ (∀ x ∈ l, x.length ≤ 1000) ∧ ∀ H', Same H H' → Q (.bl (colsB l)) H'
theorem ok_cols {f : Addr} {fd : FuncData} (F : Fun K "_are_columns" "_are_columns" s__are_columns f fd) (T : Txt mg) (c_tup : Cal P w K mg base 1 "is_tuple_of" P_is_tuple_of spTupOf) (c_name : Cal P w K mg base 1 "is_name" P_is_name spName) (c_asc : Cal P w K mg base 1 "is_ascending" P_is_ascending (spAscT K)) :
    FnOk P w K mg base CX0 2 f fd P__are_columns spCols := by
  obtain ⟨f_t, fd_t, G_is_tuple_of, b_is_tuple_of, g_is_tuple_of, k_is_tuple_of⟩ := c_tup
  obtain ⟨f_n, fd_n, G_is_name, b_is_name, g_is_name, k_is_name⟩ := c_name
  obtain ⟨f_a, fd_a, G_is_ascending, b_is_ascending, g_is_ascending, k_is_ascending⟩ := c_asc
  refine F.ok sc__are_columns (fun vs H Q E h => ?_) (fun cdv A outer s H vs Q E hr h => ?_)
  · obtain ⟨v, l, rfl, _⟩ := h
    rfl
  · obtain ⟨v, l, rfl, ⟨a, rfl, ha⟩, few1, sh, k⟩ := h
    refine ⟨_, (pss_cons (ps_if (PW.pt (pw_or (pt_not (pt_val (pe_call G_is_tuple_of (hr.mono (by decide)) rfl g_is_tuple_of k_is_tuple_of b_is_tuple_of .nil pass0 (pa_cons (pv 0) (pa_cons pe_int (pa_cons pe_int pa_nil)))))) (pw_or1 (pt_not (pt_val (pe_callB (cr_all rfl) (by rfl) T.n_all (by decide +kernel) (pa_cons (pe_lc (own := [("column", 1)]) (g := gName 1) (tt := tYes) rfl sc__are_columns.nd (pi_tup (pv 0)) (blkOk_by (N := N__are_columns) (sc := defScope s__are_columns) (by decide +kernel)) (fun _ _ _ _ _ => (pg_name (i := 1) sc__are_columns.nd rfl (Or.inl rfl))) (fun _ _ _ _ _ => pts_nil) (fun _ _ _ _ _ => (pe_call G_is_name (hr.mono (by decide)) rfl g_is_name k_is_name b_is_name .nil pass0 (pa_cons (pv 1) pa_nil)))) pa_nil))))))) (pss_one (ps_ret pe_bl)) pss_nil)
      (pss_one (ps_ret (pe_call G_is_ascending (hr.mono (by decide)) rfl g_is_ascending k_is_ascending b_is_ascending .nil pass0 (pa_cons (pv 0) pa_nil))))), ?_⟩
    unfold tLc
    fail "z run"
    refine ⟨_, 1, 3, rfl, .tup ha, fun b hb => ?_⟩
    obtain rfl : b = (decide ((1 : Int) ≤ l.length) && decide ((l.length : Int) ≤ 3)) := by
      rcases hb with ⟨a', xs, e, h', e2⟩ | ⟨no, _⟩
      · cases e
        rw [ha] at h'
        cases h'
        rw [e2, List.length_map]
      · exact absurd ha (no a _ rfl)
    fail "z run"
    unfold colsB at k
    refine rd_iteB (fun c => ?_) (fun c => ?_)
    · fail "z run"
      have c : (decide ((1 : Int) ≤ l.length) && decide ((l.length : Int) ≤ 3)) = false := by
        cases q : (decide ((1 : Int) ≤ l.length) && decide ((l.length : Int) ≤ 3)) with
        | false => rfl
        | true => rw [q] at c; cases c
      have z := k H (Same.refl _)
      rw [c] at z
      exact z
    · have c : (decide ((1 : Int) ≤ l.length) && decide ((l.length : Int) ≤ 3)) = true := by
        cases q : (decide ((1 : Int) ≤ l.length) && decide ((l.length : Int) ≤ 3)) with
        | true => rfl
        | false => rw [q] at c; cases c
      rw [c] at k
      fail "z run"
      with_reducible refine rd_iT ?_
      fail "z run"
      refine rd_iTa ha fun D hD => lc_tupV (K := K) (l := l) (fun x => V.bl (nameB x)) (SqT.of ha) hD (by simp) (by omega) ?_ ?_
      · intro i x e H2 Q' hx he S kq
        rw [List.getElem?_map, he] at hx
        cases hx
        fail "z run"
        refine ⟨rfl, ?_⟩
        fail "z run"
        refine ⟨e, rfl, sh e (List.mem_of_getElem? he), kq _ (Same.refl _)⟩
      · intro H2 S hL
        fail "z run"
        refine all_of hL ?_
        fail "z run"
        refine rd_iteB (fun c2 => ?_) (fun c2 => ?_)
        · fail "z run"
          have z := k _ S
          rw [show l.all nameB = false by cases q : l.all nameB with | false => rfl | true => rw [q] at c2; cases c2] at z
          exact z
        · fail "z run"
          rw [show l.all nameB = true by cases q : l.all nameB with | true => rfl | false => rw [q] at c2; cases c2] at k
          exact ⟨a, l, rfl, SqT.of (S _ _ ha), few1, fun H3 S3 => k _ (S.trans S3)⟩
/-! ### worlds: rows of reads and writes -/
abbrev s__are_rows : Stmt := (top 47)
abbrev N__are_rows : List Str := ["columns", "value", "many", "row"]
abbrev P__are_rows : List Str := ["columns", "value", "many"]
theorem sc__are_rows : FnScope N__are_rows P__are_rows (defScope s__are_rows) := ⟨rfl, rfl, rfl, by decide +kernel, rfl, by decide +kernel, by decide +kernel⟩
abbrev s__is_edition : Stmt := (top 46)
abbrev N__is_edition : List Str := ["columns", "value", "sight", "reads", "writes", "sources", "row"]
abbrev P__is_edition : List Str := ["columns", "value"]
theorem sc__is_edition : FnScope N__is_edition P__is_edition (defScope s__is_edition) := ⟨rfl, rfl, rfl, by decide +kernel, rfl, by decide +kernel, by decide +kernel⟩
abbrev s_is_between : Stmt := (top 6)
abbrev N_is_between : List Str := ["value", "low", "high"]
abbrev P_is_between : List Str := ["value", "low", "high"]
theorem sc_is_between : FnScope N_is_between P_is_between (defScope s_is_between) := ⟨rfl, rfl, rfl, by decide +kernel, rfl, by decide +kernel, by decide +kernel⟩

theorem op_inK {X : Cx} {K : PySem.W.Frag} (h : X.K = K := by rfl) : OpR X (compareOp .In) (rIn K false) := by
  subst h
  exact op_in_seq
theorem op_notInK {X : Cx} {K : PySem.W.Frag} (h : X.K = K := by rfl) : OpR X (compareOp .NotIn) (rIn K true) := by
  subst h
  exact op_notIn_seq
theorem ix_tupK {X : Cx} {K : PySem.W.Frag} (h : X.K = K := by rfl) : IxR X (rIxT K) := by
  subst h
  exact ix_tup
theorem ix_listK {X : Cx} {K : PySem.W.Frag} (h : X.K = K := by rfl) : IxR X (rIxL K) := by
  subst h
  exact ix_list
def btw (v : V) (lo hi : Int) : Bool := match v with
  | .int n => decide (lo ≤ n) && decide (n ≤ hi)
  | _ => false
theorem btw_no {v : V} {lo hi : Int} (h : isI v = false) : btw v lo hi = false := by
  cases v <;> first | rfl | cases h
theorem isI_int {v : V} (h : isI v = true) : ∃ n, v = .int n := by
  cases v <;> first | exact ⟨_, rfl⟩ | cases h
theorem btw_yes {v : V} {lo hi : Int} (h : btw v lo hi = true) : ∃ n, v = .int n ∧ lo ≤ n ∧ n ≤ hi := by
  cases v with
  | int n =>
    have h : (decide (lo ≤ n) && decide (n ≤ hi)) = true := h
    rw [Bool.and_eq_true, decide_eq_true_eq, decide_eq_true_eq] at h
    exact ⟨n, rfl, h.1, h.2⟩
  | _ => cases h
def spBtw : Sp := fun vs H Q _ => ∃ (v : V) (lo hi : Int), vs = [v, .int lo, .int hi] ∧ Plain H v ∧ Q (.bl (btw v lo hi)) H
theorem ok_btw {f : Addr} {fd : FuncData} (F : Fun K "is_between" "is_between" s_is_between f fd) (c_is : Cal P w K mg base 1 "is_integer" P_is_integer spIsInt) : FnOk P w K mg base CX0 2 f fd P_is_between spBtw := by
  obtain ⟨f_is, fd_is, G_is_integer, b_is_integer, g_is_integer, k_is_integer⟩ := c_is
  refine F.ok sc_is_between (fun vs H Q E h => ?_) (fun cdv A outer s H vs Q E hr h => ?_)
  · obtain ⟨v, lo, hi, rfl, _⟩ := h
    rfl
  · obtain ⟨v, lo, hi, rfl, p, k⟩ := h
    refine ⟨_, (pss_one (ps_ret (pe_and (pe_call G_is_integer (hr.mono (by decide)) rfl g_is_integer k_is_integer b_is_integer .nil pass0 (pa_cons (pv 0) pa_nil)) (pe_one (pe_chain op_le op_le (pv 1) (pv 0) (pv 2)))))), ?_⟩
    fail "z run"
    refine ⟨_, rfl, p, ?_⟩
    fail "z run"
    refine rd_iteB (fun hb => ?_) (fun hb => ?_)
    · obtain ⟨n, rfl⟩ := isI_int hb
      fail "z run"
      refine rd_iteB (fun h1 => ?_) (fun h1 => ?_)
      · fail "z run"
        have e : btw (.int n) lo hi = decide (n ≤ hi) := by
          show (decide (lo ≤ n) && decide (n ≤ hi)) = _
          rw [h1, Bool.true_and]
        rw [← e]
        exact k
      · have e : btw (.int n) lo hi = false := by
          show (decide (lo ≤ n) && decide (n ≤ hi)) = _
          rw [h1, Bool.false_and]
        rw [← e]
        exact k
    · rw [btw_no hb] at k
      exact k
abbrev vREADS : List Str := ["narrow", "wide", "either"]
abbrev vDEEDS : List Str := ["match", "order", "show"]
abbrev vHOWS : List Str := ["narrow", "wide", "both", "narrow first", "wide first"]
abbrev vRULES : List Str := ["cut", "empty", "refuse"]
abbrev vSIDES : List Str := ["narrow", "wide"]
abbrev vTWO : List Str := ["narrow first", "wide first"]
def readB (r : Rd) : Bool := strIn r.2.1 vREADS && ((r.2.2.all fun d => strIn d vDEEDS) && ascS r.2.2)
theorem nb {b : Bool} (h : (!b) = true) : b = false := by
  cases b with
  | false => rfl
  | true => cases h
theorem nb' {b : Bool} (h : (!b) = false) : b = true := by
  cases b with
  | true => rfl
  | false => cases h
def spRead : Sp := fun vs H Q _ => ∃ (v : V) (r : Rd), vs = [v] ∧ IsRd H v r ∧ r.2.2.length ≤ 900 ∧ ∀ H', Same H H' → Q (.bl (readB r)) H'
theorem ok_rd {f a_READ_SIDES a_DEEDS : Addr} {fd : FuncData} (F : Fun K "_is_read" "_is_read" s__is_read f fd) (T : Txt mg) (G1 : GlobT K mg "READ_SIDES" a_READ_SIDES vREADS) (G2 : GlobT K mg "DEEDS" a_DEEDS vDEEDS) (c_asc : Cal P w K mg base 1 "is_ascending" P_is_ascending (spAscT K)) :
    FnOk P w K mg base CX0 2 f fd P__is_read spRead := by
  obtain ⟨f_a, fd_a, G_is_ascending, b_is_ascending, g_is_ascending, k_is_ascending⟩ := c_asc
  have g_READ_SIDES := G1.g
  have g_DEEDS := G2.g
  refine F.ok sc__is_read (fun vs H Q E h => ?_) (fun cdv A outer s H vs Q E hr h => ?_)
  · obtain ⟨v, r, rfl, _⟩ := h
    rfl
  · obtain ⟨v, ⟨c, sd, ds⟩, rfl, ⟨a, d, rfl, ha, ⟨ad, rfl, hd⟩⟩, few1, k⟩ := h
    refine ⟨_, (pss_cons (ps_asg (pv 0) (pg_tup rfl (pgs_cons (pg_name (i := 1) sc__is_read.nd rfl (Or.inl rfl)) (pgs_cons (pg_name (i := 2) sc__is_read.nd rfl (Or.inl rfl)) (pgs_cons (pg_name (i := 3) sc__is_read.nd rfl (Or.inl rfl)) pgs_nil)))))
      (pss_cons (ps_if (PW.pt (pw_or (pt_cmpR op_notIn_seq (pv 2) (pe_glob (v := .ref a_READ_SIDES) rfl g_READ_SIDES rfl) rfl) (pw_or1 (pt_not (pt_val (pe_callB call_isi (by rfl) T.n_isinstance (by decide +kernel) (pa_cons (pv 3) (pa_cons (pe_bltn (v := .ty "tuple") (by rfl) T.n_tuple (by decide +kernel) rfl) pa_nil)))))))) (pss_one (ps_ret pe_bl)) pss_nil)
      (pss_one (ps_ret (pe_and (pe_callB (cr_all rfl) (by rfl) T.n_all (by decide +kernel) (pa_cons (pe_lc (own := [("deed", 4)]) (g := gName 4) (tt := tYes) rfl sc__is_read.nd (pi_tup (pv 3)) (blkOk_by (N := N__is_read) (sc := defScope s__is_read) (by decide +kernel)) (fun _ _ _ _ _ => (pg_name (i := 4) sc__is_read.nd rfl (Or.inl rfl))) (fun _ _ _ _ _ => pts_nil) (fun _ _ _ _ _ => (pe_cmpR (op_inK (K := K)) (pv 4) (pe_glob (v := .ref a_DEEDS) rfl g_DEEDS rfl) rfl))) pa_nil)) (pe_one (pe_call G_is_ascending (hr.mono (by decide)) rfl g_is_ascending k_is_ascending b_is_ascending .nil pass0 (pa_cons (pv 3) pa_nil)))))))), ?_⟩
    unfold tLc
    fail "z run"
    refine rd_gtup ha rfl ?_
    fail "z run"
    refine rd_ninT (G1.t H) ?_
    fail "z run"
    have few1 : ds.length ≤ 900 := few1
    have k : ∀ H', Same H H' → Q (.bl (strIn sd vREADS && ((ds.all fun d => strIn d vDEEDS) && ascS ds))) H' := k
    refine rd_iteB (fun c => ?_) (fun c => ?_)
    · fail "z run"
      have z := k _ (Same.refl H)
      rw [nb c] at z
      exact z
    rw [nb' c] at k
    fail "z run"
    refine rd_isi (.base (.tup hd)) (b := true) (by decide +kernel) ?_
    fail "z run"
    refine iteF ?_
    fail "z run"
    with_reducible refine rd_iT ?_
    fail "z run"
    refine rd_iTa hd fun D hD => lc_tupV (K := K) (l := ds) (fun x => V.bl (strIn x vDEEDS)) (SqT.of hd) hD (by simp) (by omega) ?_ ?_
    · intro i x e H2 Q' hx he S kq
      rw [List.getElem?_map, he] at hx
      cases hx
      fail "z run"
      refine ⟨rfl, ?_⟩
      fail "z run"
      exact rd_inT (G2.t H2) (kq _ (Same.refl _))
    · intro H2 S hL
      fail "z run"
      refine all_of hL ?_
      fail "z run"
      refine rd_iteB (fun c2 => ?_) (fun c2 => ?_)
      · rw [c2] at k
        fail "z run"
        exact ⟨ad, ds, rfl, SqT.of (S _ _ hd), few1, fun H3 S3 => k _ (S.trans S3)⟩
      · have z := k _ S
        rw [c2] at z
        exact z
def writeB (ss : List Str) (r : Wr) : Bool := (strIn r.2.1 vHOWS && (strIn r.2.2.1 vRULES && btw (.int r.2.2.2.2) 0 99)) && (decide (r.2.2.2.1 = "") || (strIn r.2.2.2.1 ss && !decide (r.2.2.2.1 = r.1)))
theorem dec_str {a b : Str} : decide (V.str a = V.str b) = decide (a = b) := by
  by_cases q : a = b
  · rw [q]
    simp
  · rw [decide_eq_false q, decide_eq_false fun z => q (V.str.inj z)]
def spWrite (K : PySem.W.Frag) : Sp := fun vs H Q _ => ∃ (s : Addr) (v : V) (ss : List Str) (r : Wr), vs = [.ref s, v] ∧ SqL K H s (ss.map V.str) ∧ IsWr H v r ∧ Q (.bl (writeB ss r)) H
theorem ok_wr {f a_HOWS a_RULES : Addr} {fd : FuncData} {t1 t2 t3 t4 : Tok} (F : Fun K "_is_write" "_is_write" s__is_write f fd) (T : Txt mg) (TB : TxtW mg t1 t2 t3 t4) (G1 : GlobT K mg "HOWS" a_HOWS vHOWS) (G2 : GlobT K mg "RULES" a_RULES vRULES) (c_btw : Cal P w K mg base 2 "is_between" P_is_between spBtw) :
    FnOk P w K mg base CX0 3 f fd P__is_write (spWrite K) := by
  obtain ⟨f_b, fd_b, G_is_between, b_is_between, g_is_between, k_is_between⟩ := c_btw
  have g_HOWS := G1.g
  have g_RULES := G2.g
  refine F.ok sc__is_write (fun vs H Q E h => ?_) (fun cdv A outer s H vs Q E hr h => ?_)
  · obtain ⟨s, v, ss, r, rfl, _⟩ := h
    rfl
  · obtain ⟨s, v, ss, ⟨co, how, rule, src, pace⟩, rfl, hs, ⟨a, rfl, ha⟩, k⟩ := h
    refine ⟨_, (pss_cons (ps_asg (pv 1) (pg_tup rfl (pgs_cons (pg_name (i := 2) sc__is_write.nd rfl (Or.inl rfl)) (pgs_cons (pg_name (i := 3) sc__is_write.nd rfl (Or.inl rfl)) (pgs_cons (pg_name (i := 4) sc__is_write.nd rfl (Or.inl rfl)) (pgs_cons (pg_name (i := 5) sc__is_write.nd rfl (Or.inl rfl)) (pgs_cons (pg_name (i := 6) sc__is_write.nd rfl (Or.inl rfl)) pgs_nil)))))))
      (pss_cons (ps_if (PW.pt (pw_or (pt_cmpR op_notIn_seq (pv 3) (pe_glob (v := .ref a_HOWS) rfl g_HOWS rfl) rfl) (pw_or (pt_cmpR op_notIn_seq (pv 4) (pe_glob (v := .ref a_RULES) rfl g_RULES rfl) rfl) (pw_or1 (pt_not (pt_val (pe_call G_is_between (hr.mono (by decide)) rfl g_is_between k_is_between b_is_between .nil pass0 (pa_cons (pv 6) (pa_cons pe_int (pa_cons (pe_glob (v := .int 99) rfl TB.g_MOST_PACE ⟨_, rfl⟩) pa_nil)))))))))) (pss_one (ps_ret pe_bl)) pss_nil)
      (pss_one (ps_ret (pe_or (pe_cmpR op_eq (pv 5) pe_str (nomark _)) (pe_one (pe_and (pe_cmpR op_in_seq (pv 5) (pv 0) rfl) (pe_one (pe_cmpR op_ne (pv 5) (pv 2) (nomark _)))))))))), ?_⟩
    have k : Q (.bl ((strIn how vHOWS && (strIn rule vRULES && btw (.int pace) 0 99)) && (decide (src = "") || (strIn src ss && !decide (src = co))))) H := k
    fail "z run"
    refine rd_gtup ha rfl ?_
    fail "z run"
    refine rd_ninT (G1.t H) ?_
    fail "z run"
    refine rd_iteB (fun c => ?_) (fun c => ?_)
    · fail "z run"
      rw [nb c] at k
      exact k
    rw [nb' c] at k
    fail "z run"
    refine rd_ninT (G2.t H) ?_
    fail "z run"
    refine rd_iteB (fun c1 => ?_) (fun c1 => ?_)
    · fail "z run"
      rw [nb c1] at k
      exact k
    rw [nb' c1] at k
    fail "z run"
    refine ⟨_, 0, 99, rfl, .int _, ?_⟩
    fail "z run"
    refine rd_iteB (fun c2 => ?_) (fun c2 => ?_)
    · fail "z run"
      rw [nb c2] at k
      exact k
    rw [nb' c2] at k
    fail "z run"
    rw [dec_str]
    refine rd_iteB (fun c3 => ?_) (fun c3 => ?_)
    · rw [c3] at k
      exact k
    rw [c3] at k
    fail "z run"
    refine rd_inL hs ?_
    fail "z run"
    refine rd_iteB (fun c4 => ?_) (fun c4 => ?_)
    · rw [c4] at k
      fail "z run"
      rw [dec_str]
      exact k
    · rw [c4] at k
      exact k
/-- rows: tuples of so many, each with a name ahead -/
def IsRowsN (H : Hp) (v : V) (many : Nat) (ns : List Str) : Prop := IsTupOf (fun H x n => ∃ t ys, x = .ref t ∧ H t = some (.tup (V.str n :: ys)) ∧ ys.length + 1 = many) H v ns
def rowsB (cs ns : List Str) : Bool := (ns.all fun n => strIn n cs) && ascS ns
def spRows : Sp := fun vs H Q _ => ∃ (c v : V) (many : Nat) (cs ns : List Str), vs = [c, v, .int many] ∧ IsStrs H c cs ∧ IsRowsN H v many ns ∧ ns.length ≤ 900 ∧ ∀ H', Same H H' → Q (.bl (rowsB cs ns)) H'
theorem ok_rows {f : Addr} {fd : FuncData} (F : Fun K "_are_rows" "_are_rows" s__are_rows f fd) (T : Txt mg) (c_tup : Cal P w K mg base 1 "is_tuple_of" P_is_tuple_of spTupOf) (c_asc : Cal P w K mg base 1 "is_ascending" P_is_ascending (spAscL K)) :
    FnOk P w K mg base CX0 2 f fd P__are_rows spRows := by
  obtain ⟨f_t, fd_t, G_is_tuple_of, b_is_tuple_of, g_is_tuple_of, k_is_tuple_of⟩ := c_tup
  obtain ⟨f_a, fd_a, G_is_ascending, b_is_ascending, g_is_ascending, k_is_ascending⟩ := c_asc
  refine F.ok sc__are_rows (fun vs H Q E h => ?_) (fun cdv A outer s H vs Q E hr h => ?_)
  · obtain ⟨c, v, many, cs, ns, rfl, _⟩ := h
    rfl
  · obtain ⟨c, v, many, cs, ns, rfl, ⟨ac, rfl, hc⟩, ⟨a, xs, rfl, ha, ln, at_⟩, few1, k⟩ := h
    refine ⟨_, (pss_cons (ps_if (pt_not (pt_val (pe_callB call_isi (by rfl) T.n_isinstance (by decide +kernel) (pa_cons (pv 1) (pa_cons (pe_bltn (v := .ty "tuple") (by rfl) T.n_tuple (by decide +kernel) rfl) pa_nil))))) (pss_one (ps_ret pe_bl)) pss_nil)
      (pss_cons (ps_for PassesOwn.never rfl (pi_tup (pv 1)) (pg_name (i := 3) sc__are_rows.nd rfl (Or.inl rfl)) (pss_one (ps_if (PW.pt (pw_or (pt_not (pt_val (pe_call G_is_tuple_of (hr.mono (by decide)) rfl g_is_tuple_of k_is_tuple_of b_is_tuple_of .nil pass0 (pa_cons (pv 3) (pa_cons (pv 2) (pa_cons (pv 2) pa_nil)))))) (pw_or1 (pt_cmpR op_notIn_seq (pe_ix ix_tup (pv 3) pe_int (fun _ _ => rfl)) (pv 0) rfl)))) (pss_one (ps_ret pe_bl)) pss_nil)))
      (pss_one (ps_ret (pe_call G_is_ascending (hr.mono (by decide)) rfl g_is_ascending k_is_ascending b_is_ascending .nil pass0 (pa_cons (pe_lc (own := [("row", 3)]) (g := gName 3) (tt := tYes) rfl sc__are_rows.nd (pi_tup (pv 1)) (blkOk_by (N := N__are_rows) (sc := defScope s__are_rows) (by decide +kernel)) (fun _ _ _ _ _ => (pg_name (i := 3) sc__are_rows.nd rfl (Or.inl rfl))) (fun _ _ _ _ _ => pts_nil) (fun _ _ _ _ _ => (pe_ix (ix_tupK (K := K)) (pv 3) pe_int (fun _ _ => rfl)))) pa_nil)))))), ?_⟩
    unfold tLc
    fail "z run"
    refine rd_isi (.base (.tup ha)) (b := true) (by decide +kernel) ?_
    fail "z run"
    refine iteF ?_
    fail "z run"
    with_reducible refine rd_for ?_
    with_reducible refine rd_iT ?_
    fail "z run"
    refine rd_iTa ha (for_tup (K := K) (a := a) (xs := xs) (fun i σ H' => ∃ z, σ = [some (.ref ac), some (.ref a), some (.int many), z] ∧ H' = H ∧ ((ns.take i).all fun n => strIn n cs) = true) ⟨none, rfl, rfl, rfl⟩ (fun i σ H' _ ⟨_, _, e, _⟩ => by rw [e]; exact SqT.of ha) ?_ ?_)
    · rintro i x σ H' hx ⟨z, rfl, rfl, hall⟩
      have li : i < ns.length := by
        rw [← ln]
        exact (List.getElem?_eq_some_iff.mp hx).1
      have hn : ns[i]? = some ns[i] := List.getElem?_eq_getElem li
      obtain ⟨t, ys, rfl, ht, lm⟩ := at_ i x _ hx hn
      fail "z run"
      refine ⟨_, _, _, rfl, .tup ht, fun b hb => ?_⟩
      obtain rfl : b = true := by
        rcases hb with ⟨a', zs, e, h', e2⟩ | ⟨no, _⟩
        · cases e
          rw [ht] at h'
          cases h'
          rw [e2, List.length_cons, decide_eq_true (by omega), decide_eq_true (by omega)]
          rfl
        · exact absurd ht (no t _ rfl)
      fail "z run"
      refine iteF ?_
      fail "z run"
      refine rd_ninT (SqT.of hc) ?_
      fail "z run"
      refine rd_iteB (fun c1 => ?_) (fun c1 => ?_)
      · fail "z run"
        have z := k _ (Same.refl _)
        rw [show rowsB cs ns = false by
          unfold rowsB
          rw [show (ns.all fun n => strIn n cs) = false from ?_, Bool.false_and]
          rw [List.all_eq_false]
          exact ⟨ns[i], List.getElem_mem li, by rw [nb c1]; exact Bool.false_ne_true⟩] at z
        exact z
      · fail "z run"
        refine ⟨_, rfl, rfl, ?_⟩
        rw [List.take_succ, hn, List.all_append, hall]
        simp [nb' c1]
    · rintro σ H' ⟨z, rfl, rfl, hall⟩
      rw [ln, List.take_length] at hall
      fail "z run"
      with_reducible refine rd_iT ?_
      fail "z run"
      refine rd_iTa ha fun D hD => lc_tupV (K := K) (l := ns) (fun x => V.str x) (SqT.of ha) hD ln (by omega) ?_ ?_
      · intro i x e H2 Q' hx he S kq
        obtain ⟨t, ys, rfl, ht, lm⟩ := at_ i x _ hx he
        have ht := S _ _ ht
        fail "z run"
        refine ⟨rfl, ?_⟩
        fail "z run"
        exact kq _ (Same.refl _)
      · intro H2 S hL
        fail "z run"
        refine ⟨D, ns, rfl, SqL.of hL, few1, fun H3 S3 => ?_⟩
        have z := k _ (S.trans S3)
        unfold rowsB at z
        rw [hall] at z
        exact z
/-! ### worlds: editions, programs -/
abbrev s__is_program : Stmt := (top 45)
abbrev N__is_program : List Str := ["columns", "value", "name", "editions", "edition"]
abbrev P__is_program : List Str := ["columns", "value"]
theorem sc__is_program : FnScope N__is_program P__is_program (defScope s__is_program) := ⟨rfl, rfl, rfl, by decide +kernel, rfl, by decide +kernel, by decide +kernel⟩
abbrev s__many_in_two_events : Stmt := (top 51)
abbrev N__many_in_two_events : List Str := ["programs", "many", "_", "editions", "writes", "row"]
abbrev P__many_in_two_events : List Str := ["programs"]
theorem sc__many_in_two_events : FnScope N__many_in_two_events P__many_in_two_events (defScope s__many_in_two_events) := ⟨rfl, rfl, rfl, by decide +kernel, rfl, by decide +kernel, by decide +kernel⟩
abbrev s__are_programs : Stmt := (top 44)
abbrev N__are_programs : List Str := ["columns", "programs", "program", "name", "_"]
abbrev P__are_programs : List Str := ["columns", "programs"]
theorem sc__are_programs : FnScope N__are_programs P__are_programs (defScope s__are_programs) := ⟨rfl, rfl, rfl, by decide +kernel, rfl, by decide +kernel, by decide +kernel⟩

def EdS (e : Ed) : Prop := e.2.1.length ≤ 900 ∧ e.2.2.length ≤ 900 ∧ ∀ r ∈ e.2.1, r.2.2.length ≤ 900
def edB (cs : List Str) (e : Ed) : Bool := strIn e.1 vSIDES && (rowsB cs (e.2.1.map (·.1)) && (rowsB cs (e.2.2.map (·.1)) && (e.2.1.all readB && e.2.2.all (writeB (e.2.1.map (·.1))))))
theorem rows_rd {H : Hp} {v : V} {l : List Rd} (h : IsTupOf IsRd H v l) : IsRowsN H v 3 (l.map (·.1)) := by
  obtain ⟨a, xs, e, ha, n, g⟩ := h
  refine ⟨a, xs, e, ha, by rw [List.length_map]; exact n, fun i x c hx hc => ?_⟩
  rw [List.getElem?_map] at hc
  cases q : l[i]? with
  | none => rw [q] at hc; cases hc
  | some r =>
    rw [q] at hc
    cases hc
    obtain ⟨t, d, ex, ht, _⟩ := g i x r hx q
    exact ⟨t, _, ex, ht, rfl⟩
theorem rows_wr {H : Hp} {v : V} {l : List Wr} (h : IsTupOf IsWr H v l) : IsRowsN H v 5 (l.map (·.1)) := by
  obtain ⟨a, xs, e, ha, n, g⟩ := h
  refine ⟨a, xs, e, ha, by rw [List.length_map]; exact n, fun i x c hx hc => ?_⟩
  rw [List.getElem?_map] at hc
  cases q : l[i]? with
  | none => rw [q] at hc; cases hc
  | some r =>
    rw [q] at hc
    cases hc
    obtain ⟨t, ex, ht⟩ := g i x r hx q
    exact ⟨t, _, ex, ht, rfl⟩
theorem tupB_yes {H : Hp} {a : Addr} {xs : List V} {lo hi : Int} {b : Bool} (h : H a = some (.tup xs)) (hb : tupB H (.ref a) lo hi b) : b = (decide (lo ≤ xs.length) && decide ((xs.length : Int) ≤ hi)) := by
  rcases hb with ⟨a', zs, e, h', e2⟩ | ⟨no, _⟩
  · cases e
    rw [h] at h'
    cases h'
    exact e2
  · exact absurd h (no a _ rfl)
def spEd : Sp := fun vs H Q _ => ∃ (c v : V) (cs : List Str) (e : Ed), vs = [c, v] ∧ IsStrs H c cs ∧ IsEd H v e ∧ EdS e ∧ ∀ H', Same H H' → Q (.bl (edB cs e)) H'
theorem ok_ed {f a_SIDES : Addr} {fd : FuncData} (F : Fun K "_is_edition" "_is_edition" s__is_edition f fd) (T : Txt mg) (G1 : GlobT K mg "SIDES" a_SIDES vSIDES) (c_tup : Cal P w K mg base 1 "is_tuple_of" P_is_tuple_of spTupOf) (c_rows : Cal P w K mg base 2 "_are_rows" P__are_rows spRows)
    (c_rd : Cal P w K mg base 2 "_is_read" P__is_read spRead) (c_wr : Cal P w K mg base 3 "_is_write" P__is_write (spWrite K)) : FnOk P w K mg base CX0 4 f fd P__is_edition spEd := by
  obtain ⟨f_t, fd_t, G_is_tuple_of, b_is_tuple_of, g_is_tuple_of, k_is_tuple_of⟩ := c_tup
  obtain ⟨f_r, fd_r, G__are_rows, b__are_rows, g__are_rows, k__are_rows⟩ := c_rows
  obtain ⟨f_d, fd_d, G__is_read, b__is_read, g__is_read, k__is_read⟩ := c_rd
  obtain ⟨f_w, fd_w, G__is_write, b__is_write, g__is_write, k__is_write⟩ := c_wr
  have g_SIDES := G1.g
  refine F.ok sc__is_edition (fun vs H Q E h => ?_) (fun cdv A outer s H vs Q E hr h => ?_)
  · obtain ⟨c, v, cs, e, rfl, _⟩ := h
    rfl
  · obtain ⟨c, v, cs, ⟨si, rs, ws⟩, rfl, hc, ⟨a, r, wv, rfl, ha, hrd, hwr⟩, ⟨n1, n2, n3⟩, k⟩ := h
    have n1 : rs.length ≤ 900 := n1
    have n2 : ws.length ≤ 900 := n2
    have n3 : ∀ r ∈ rs, r.2.2.length ≤ 900 := n3
    have k : ∀ H', Same H H' → Q (.bl (strIn si vSIDES && (rowsB cs (rs.map (·.1)) && (rowsB cs (ws.map (·.1)) && (rs.all readB && ws.all (writeB (rs.map (·.1)))))))) H' := k
    refine ⟨_, (pss_cons (ps_if (pt_not (pt_val (pe_call G_is_tuple_of (hr.mono (by decide)) rfl g_is_tuple_of k_is_tuple_of b_is_tuple_of .nil pass0 (pa_cons (pv 1) (pa_cons pe_int (pa_cons pe_int pa_nil)))))) (pss_one (ps_ret pe_bl)) pss_nil)
      (pss_cons (ps_asg (pv 1) (pg_tup rfl (pgs_cons (pg_name (i := 2) sc__is_edition.nd rfl (Or.inl rfl)) (pgs_cons (pg_name (i := 3) sc__is_edition.nd rfl (Or.inl rfl)) (pgs_cons (pg_name (i := 4) sc__is_edition.nd rfl (Or.inl rfl)) pgs_nil)))))
      (pss_cons (ps_if (PW.pt (pw_or (pt_cmpR op_notIn_seq (pv 2) (pe_glob (v := .ref a_SIDES) rfl g_SIDES rfl) rfl) (pw_or (pt_not (pt_val (pe_call G__are_rows (hr.mono (by decide)) rfl g__are_rows k__are_rows b__are_rows .nil pass0 (pa_cons (pv 0) (pa_cons (pv 3) (pa_cons pe_int pa_nil)))))) (pw_or1 (pt_not (pt_val (pe_call G__are_rows (hr.mono (by decide)) rfl g__are_rows k__are_rows b__are_rows .nil pass0 (pa_cons (pv 0) (pa_cons (pv 4) (pa_cons pe_int pa_nil)))))))))) (pss_one (ps_ret pe_bl)) pss_nil)
      (pss_cons (ps_if (pt_not (pt_val (pe_callB (cr_all rfl) (by rfl) T.n_all (by decide +kernel) (pa_cons (pe_lc (own := [("row", 6)]) (g := gName 6) (tt := tYes) rfl sc__is_edition.nd (pi_tup (pv 3)) (blkOk_by (N := N__is_edition) (sc := defScope s__is_edition) (by decide +kernel)) (fun _ _ _ _ _ => (pg_name (i := 6) sc__is_edition.nd rfl (Or.inl rfl))) (fun _ _ _ _ _ => pts_nil) (fun _ _ _ _ _ => (pe_call G__is_read (hr.mono (by decide)) rfl g__is_read k__is_read b__is_read .nil pass0 (pa_cons (pv 6) pa_nil)))) pa_nil)))) (pss_one (ps_ret pe_bl)) pss_nil)
      (pss_cons (ps_set (i := 5) sc__is_edition.nd rfl (Or.inr rfl) (pe_lc (own := [("row", 6)]) (g := gName 6) (tt := tYes) rfl sc__is_edition.nd (pi_tup (pv 3)) (blkOk_by (N := N__is_edition) (sc := defScope s__is_edition) (by decide +kernel)) (fun _ _ _ _ _ => (pg_name (i := 6) sc__is_edition.nd rfl (Or.inl rfl))) (fun _ _ _ _ _ => pts_nil) (fun _ _ _ _ _ => (pe_ix (ix_tupK (K := K)) (pv 6) pe_int (fun _ _ => rfl)))))
      (pss_one (ps_ret (pe_callB (cr_all rfl) (by rfl) T.n_all (by decide +kernel) (pa_cons (pe_lc (own := [("row", 6)]) (g := gName 6) (tt := tYes) rfl sc__is_edition.nd (pi_tup (pv 4)) (blkOk_by (N := N__is_edition) (sc := defScope s__is_edition) (by decide +kernel)) (fun _ _ _ _ _ => (pg_name (i := 6) sc__is_edition.nd rfl (Or.inl rfl))) (fun _ _ _ _ _ => pts_nil) (fun _ _ _ _ _ => (pe_call G__is_write (hr.mono (by decide)) rfl g__is_write k__is_write b__is_write .nil pass0 (pa_cons (pv 5) (pa_cons (pv 6) pa_nil))))) pa_nil))))))))), ?_⟩
    unfold tLc
    fail "z run"
    refine ⟨_, _, _, rfl, .tup ha, fun b hb => ?_⟩
    obtain rfl := tupB_yes ha hb
    fail "z run"
    refine iteF ?_
    fail "z run"
    refine rd_gtup ha rfl ?_
    fail "z run"
    refine rd_ninT (G1.t H) ?_
    fail "z run"
    refine rd_iteB (fun c => ?_) (fun c => ?_)
    · fail "z run"
      have z := k _ (Same.refl H)
      rw [nb c] at z
      exact z
    rw [nb' c] at k
    fail "z run"
    refine ⟨_, _, 3, cs, _, rfl, hc, rows_rd hrd, by rw [List.length_map]; exact n1, fun H1 S1 => ?_⟩
    have hc := hc.same S1
    have hrd := hrd.same (fun _ _ q => q.same S1) S1
    have hwr := hwr.same (fun _ _ q => q.same S1) S1
    fail "z run"
    refine rd_iteB (fun c1 => ?_) (fun c1 => ?_)
    · fail "z run"
      have z := k _ S1
      rw [nb c1] at z
      exact z
    rw [nb' c1] at k
    fail "z run"
    refine ⟨_, _, 5, cs, _, rfl, hc, rows_wr hwr, by rw [List.length_map]; exact n2, fun H2 S2 => ?_⟩
    have hrd := hrd.same (fun _ _ q => q.same S2) S2
    have hwr := hwr.same (fun _ _ q => q.same S2) S2
    have S2 := S1.trans S2
    fail "z run"
    refine rd_iteB (fun c2 => ?_) (fun c2 => ?_)
    · fail "z run"
      have z := k _ S2
      rw [nb c2] at z
      exact z
    rw [nb' c2] at k
    obtain ⟨ar, xr, rfl, har, lr, gr⟩ := id hrd
    obtain ⟨aw, xw, rfl, haw, lw, gw⟩ := id hwr
    fail "z run"
    with_reducible refine rd_iT ?_
    fail "z run"
    refine rd_iTa har fun D hD => lc_tupV (K := K) (l := rs) (fun x => V.bl (readB x)) (SqT.of har) hD lr (by omega) ?_ ?_
    · intro i x e H3 Q' hx he S kq
      fail "z run"
      refine ⟨rfl, ?_⟩
      fail "z run"
      exact ⟨_, e, rfl, (gr i x e hx he).same S, n3 e (List.mem_of_getElem? he), kq⟩
    intro H3 S3 hL
    have S3' := S2.trans S3
    fail "z run"
    refine all_of hL ?_
    fail "z run"
    refine rd_iteB (fun c3 => ?_) (fun c3 => ?_)
    · fail "z run"
      have z := k _ S3'
      rw [nb c3] at z
      exact z
    rw [nb' c3] at k
    have har := S3 _ _ har
    fail "z run"
    with_reducible refine rd_iT ?_
    fail "z run"
    refine rd_iTa har fun D2 hD2 => lc_tupV (K := K) (l := rs) (fun x => V.str x.1) (SqT.of har) hD2 lr (by omega) ?_ ?_
    · intro i x e H4 Q' hx he S kq
      obtain ⟨t, d, rfl, ht, _⟩ := ((gr i x e hx he).same S3).same S
      fail "z run"
      refine ⟨rfl, ?_⟩
      fail "z run"
      exact kq _ (Same.refl _)
    intro H4 S4 hL2
    have S4' := S3'.trans S4
    have haw := S4 _ _ (S3 _ _ haw)
    fail "z run"
    with_reducible refine rd_iT ?_
    fail "z run"
    refine rd_iTa haw fun D3 hD3 => lc_tupV (K := K) (l := ws) (fun x => V.bl (writeB (rs.map (·.1)) x)) (SqT.of haw) hD3 lw (by omega) ?_ ?_
    · intro i x e H5 Q' hx he S kq
      fail "z run"
      refine ⟨rfl, ?_⟩
      fail "z run"
      exact ⟨D2, _, rs.map (·.1), e, rfl, SqL.of (by rw [List.map_map]; exact S _ _ hL2), (((gw i x e hx he).same S3).same S4).same S, kq _ (Same.refl _)⟩
    intro H5 S5 hL3
    fail "z run"
    refine all_of hL3 ?_
    exact k _ (S4'.trans S5)
/-! ### worlds: programs -/
def firstB (e : Ed) : Bool := (e.2.1.all fun r => strIn r.2.1 ["narrow", "either"]) && e.2.2.all fun r => decide (r.2.1 = "narrow")
def spFirst : Sp := fun vs H Q _ => ∃ (v : V) (e : Ed), vs = [v] ∧ IsEd H v e ∧ EdS e ∧ ∀ H', Same H H' → Q (.bl (firstB e)) H'
theorem ok_first {f : Addr} {fd : FuncData} (F : Fun K "_is_first_edition" "_is_first_edition" s__is_first_edition f fd) (T : Txt mg) : FnOk P w K mg base CX0 1 f fd P__is_first_edition spFirst := by
  refine F.ok sc__is_first_edition (fun vs H Q E h => ?_) (fun cdv A outer s H vs Q E hr h => ?_)
  · obtain ⟨v, e, rfl, _⟩ := h
    rfl
  · obtain ⟨v, ⟨si, rs, ws⟩, rfl, ⟨a, r, wv, rfl, ha, hrd, hwr⟩, ⟨n1, n2, n3⟩, k⟩ := h
    have n1 : rs.length ≤ 900 := n1
    have n2 : ws.length ≤ 900 := n2
    have k : ∀ H', Same H H' → Q (.bl ((rs.all fun r => strIn r.2.1 ["narrow", "either"]) && ws.all fun r => decide (r.2.1 = "narrow"))) H' := k
    obtain ⟨ar, xr, rfl, har, lr, gr⟩ := id hrd
    obtain ⟨aw, xw, rfl, haw, lw, gw⟩ := id hwr
    refine ⟨_, (pss_cons (ps_asg (pv 0) (pg_tup rfl (pgs_cons (pg_name (i := 1) sc__is_first_edition.nd rfl (Or.inl rfl)) (pgs_cons (pg_name (i := 2) sc__is_first_edition.nd rfl (Or.inl rfl)) (pgs_cons (pg_name (i := 3) sc__is_first_edition.nd rfl (Or.inl rfl)) pgs_nil)))))
      (pss_cons (ps_if (pt_not (pt_val (pe_callB (cr_all rfl) (by rfl) T.n_all (by decide +kernel) (pa_cons (pe_lc (own := [("row", 4)]) (g := gName 4) (tt := tYes) rfl sc__is_first_edition.nd (pi_tup (pv 2)) (blkOk_by (N := N__is_first_edition) (sc := defScope s__is_first_edition) (by decide +kernel)) (fun _ _ _ _ _ => (pg_name (i := 4) sc__is_first_edition.nd rfl (Or.inl rfl))) (fun _ _ _ _ _ => pts_nil) (fun _ _ _ _ _ => (pe_cmpR (op_inK (K := K)) (pe_ix (ix_tupK (K := K)) (pv 4) pe_int (fun _ _ => rfl)) (pe_tup (pa_cons pe_str (pa_cons pe_str pa_nil))) rfl))) pa_nil)))) (pss_one (ps_ret pe_bl)) pss_nil)
      (pss_one (ps_ret (pe_callB (cr_all rfl) (by rfl) T.n_all (by decide +kernel) (pa_cons (pe_lc (own := [("row", 4)]) (g := gName 4) (tt := tYes) rfl sc__is_first_edition.nd (pi_tup (pv 3)) (blkOk_by (N := N__is_first_edition) (sc := defScope s__is_first_edition) (by decide +kernel)) (fun _ _ _ _ _ => (pg_name (i := 4) sc__is_first_edition.nd rfl (Or.inl rfl))) (fun _ _ _ _ _ => pts_nil) (fun _ _ _ _ _ => (pe_cmpR op_eq (pe_ix (ix_tupK (K := K)) (pv 4) pe_int (fun _ _ => rfl)) pe_str (nomark _)))) pa_nil)))))), ?_⟩
    unfold tLc
    fail "z run"
    refine rd_gtup ha rfl ?_
    fail "z run"
    with_reducible refine rd_iT ?_
    fail "z run"
    refine rd_iTa har fun D hD => lc_tupV (K := K) (l := rs) (fun r => V.bl (strIn r.2.1 ["narrow", "either"])) (SqT.of har) hD lr (by omega) ?_ ?_
    · intro i x e H3 Q' hx he S kq
      obtain ⟨t, d, rfl, ht, _⟩ := (gr i x e hx he).same S
      fail "z run"
      refine ⟨rfl, ?_⟩
      fail "z run"
      intro tt htt
      refine rd_inT (xs := ["narrow", "either"]) (SqT.of upd_same) ?_
      exact kq _ (same_new htt)
    intro H3 S3 hL
    fail "z run"
    refine all_of hL ?_
    fail "z run"
    refine rd_iteB (fun c3 => ?_) (fun c3 => ?_)
    · fail "z run"
      have z := k _ S3
      rw [nb c3] at z
      exact z
    rw [nb' c3] at k
    have haw := S3 _ _ haw
    fail "z run"
    with_reducible refine rd_iT ?_
    fail "z run"
    refine rd_iTa haw fun D2 hD2 => lc_tupV (K := K) (l := ws) (fun r => V.bl (decide (r.2.1 = "narrow"))) (SqT.of haw) hD2 lw (by omega) ?_ ?_
    · intro i x e H4 Q' hx he S kq
      obtain ⟨t, rfl, ht⟩ := ((gw i x e hx he).same S3).same S
      fail "z run"
      refine ⟨rfl, ?_⟩
      fail "z run"
      rw [dec_str]
      exact kq _ (Same.refl _)
    intro H4 S4 hL2
    fail "z run"
    refine all_of hL2 ?_
    exact k _ (S3.trans S4)
def PgS (p : Pg) : Prop := p.1.length ≤ 1000 ∧ p.2.length ≤ 900 ∧ ∀ e ∈ p.2, EdS e
def pgB (cs : List Str) (p : Pg) : Bool := nameB p.1 && ((decide ((1 : Int) ≤ p.2.length) && decide ((p.2.length : Int) ≤ 3)) && (p.2.all (edB cs) && (p.2.head?.map firstB).getD false))
def spPg : Sp := fun vs H Q _ => ∃ (c v : V) (cs : List Str) (p : Pg), vs = [c, v] ∧ IsStrs H c cs ∧ IsPg H v p ∧ PgS p ∧ ∀ H', Same H H' → Q (.bl (pgB cs p)) H'
theorem ok_pg {f : Addr} {fd : FuncData} (F : Fun K "_is_program" "_is_program" s__is_program f fd) (T : Txt mg) (c_tup : Cal P w K mg base 1 "is_tuple_of" P_is_tuple_of spTupOf) (c_name : Cal P w K mg base 1 "is_name" P_is_name spName) (c_ed : Cal P w K mg base 4 "_is_edition" P__is_edition spEd)
    (c_first : Cal P w K mg base 1 "_is_first_edition" P__is_first_edition spFirst) : FnOk P w K mg base CX0 5 f fd P__is_program spPg := by
  obtain ⟨f_t, fd_t, G_is_tuple_of, b_is_tuple_of, g_is_tuple_of, k_is_tuple_of⟩ := c_tup
  obtain ⟨f_n, fd_n, G_is_name, b_is_name, g_is_name, k_is_name⟩ := c_name
  obtain ⟨f_e, fd_e, G__is_edition, b__is_edition, g__is_edition, k__is_edition⟩ := c_ed
  obtain ⟨f_f, fd_f, G__is_first_edition, b__is_first_edition, g__is_first_edition, k__is_first_edition⟩ := c_first
  refine F.ok sc__is_program (fun vs H Q E h => ?_) (fun cdv A outer s H vs Q E hr h => ?_)
  · obtain ⟨c, v, cs, p, rfl, _⟩ := h
    rfl
  · obtain ⟨c, v, cs, ⟨na, es⟩, rfl, hc, ⟨a, ev, rfl, ha, hes⟩, ⟨n1, n2, n3⟩, k⟩ := h
    have n1 : na.length ≤ 1000 := n1
    have n2 : es.length ≤ 900 := n2
    have n3 : ∀ e ∈ es, EdS e := n3
    have k : ∀ H', Same H H' → Q (.bl (nameB na && ((decide ((1 : Int) ≤ es.length) && decide ((es.length : Int) ≤ 3)) && (es.all (edB cs) && (es.head?.map firstB).getD false)))) H' := k
    obtain ⟨ae, xe, rfl, hae, le, ge⟩ := id hes
    refine ⟨_, (pss_cons (ps_if (pt_not (pt_val (pe_call G_is_tuple_of (hr.mono (by decide)) rfl g_is_tuple_of k_is_tuple_of b_is_tuple_of .nil pass0 (pa_cons (pv 1) (pa_cons pe_int (pa_cons pe_int pa_nil)))))) (pss_one (ps_ret pe_bl)) pss_nil)
      (pss_cons (ps_asg (pv 1) (pg_tup rfl (pgs_cons (pg_name (i := 2) sc__is_program.nd rfl (Or.inl rfl)) (pgs_cons (pg_name (i := 3) sc__is_program.nd rfl (Or.inl rfl)) pgs_nil))))
      (pss_cons (ps_if (PW.pt (pw_or (pt_not (pt_val (pe_call G_is_name (hr.mono (by decide)) rfl g_is_name k_is_name b_is_name .nil pass0 (pa_cons (pv 2) pa_nil)))) (pw_or1 (pt_not (pt_val (pe_call G_is_tuple_of (hr.mono (by decide)) rfl g_is_tuple_of k_is_tuple_of b_is_tuple_of .nil pass0 (pa_cons (pv 3) (pa_cons pe_int (pa_cons pe_int pa_nil))))))))) (pss_one (ps_ret pe_bl)) pss_nil)
      (pss_cons (ps_if (pt_not (pt_val (pe_callB (cr_all rfl) (by rfl) T.n_all (by decide +kernel) (pa_cons (pe_lc (own := [("edition", 4)]) (g := gName 4) (tt := tYes) rfl sc__is_program.nd (pi_tup (pv 3)) (blkOk_by (N := N__is_program) (sc := defScope s__is_program) (by decide +kernel)) (fun _ _ _ _ _ => (pg_name (i := 4) sc__is_program.nd rfl (Or.inl rfl))) (fun _ _ _ _ _ => pts_nil) (fun _ _ _ _ _ => (pe_call G__is_edition (hr.mono (by decide)) rfl g__is_edition k__is_edition b__is_edition .nil pass0 (pa_cons (pv 0) (pa_cons (pv 4) pa_nil))))) pa_nil)))) (pss_one (ps_ret pe_bl)) pss_nil)
      (pss_one (ps_ret (pe_call G__is_first_edition (hr.mono (by decide)) rfl g__is_first_edition k__is_first_edition b__is_first_edition .nil pass0 (pa_cons (pe_ix ix_tup (pv 3) pe_int (fun _ _ => rfl)) pa_nil)))))))), ?_⟩
    unfold tLc
    fail "z run"
    refine ⟨_, _, _, rfl, .tup ha, fun b hb => ?_⟩
    obtain rfl := tupB_yes ha hb
    fail "z run"
    refine iteF ?_
    fail "z run"
    refine rd_gtup ha rfl ?_
    fail "z run"
    refine ⟨na, rfl, n1, ?_⟩
    fail "z run"
    refine rd_iteB (fun c => ?_) (fun c => ?_)
    · fail "z run"
      have z := k _ (Same.refl H)
      rw [nb c] at z
      exact z
    rw [nb' c] at k
    fail "z run"
    refine ⟨_, 1, 3, rfl, .tup hae, fun b hb => ?_⟩
    obtain rfl := tupB_yes hae hb
    rw [le]
    fail "z run"
    refine rd_iteB (fun c => ?_) (fun c => ?_)
    · fail "z run"
      have z := k _ (Same.refl H)
      rw [nb c] at z
      exact z
    have c := nb' c
    rw [c] at k
    fail "z run"
    with_reducible refine rd_iT ?_
    fail "z run"
    refine rd_iTa hae fun D hD => lc_tupV (K := K) (l := es) (fun e => V.bl (edB cs e)) (SqT.of hae) hD le (by omega) ?_ ?_
    · intro i x e H3 Q' hx he S kq
      fail "z run"
      refine ⟨rfl, ?_⟩
      fail "z run"
      exact ⟨_, _, cs, e, rfl, hc.same S, (ge i x e hx he).same S, n3 e (List.mem_of_getElem? he), kq⟩
    intro H3 S3 hL
    fail "z run"
    refine all_of hL ?_
    fail "z run"
    refine rd_iteB (fun c3 => ?_) (fun c3 => ?_)
    · fail "z run"
      have z := k _ S3
      rw [nb c3] at z
      exact z
    rw [nb' c3] at k
    fail "z run"
    cases es with
    | nil =>
      rw [show (decide ((1 : Int) ≤ ([] : List Ed).length)) = false from rfl] at c
      cases c
    | cons e0 er =>
      cases xe with
      | nil => cases le
      | cons x0 xr =>
        have hae := S3 _ _ hae
        fail "z run"
        exact ⟨x0, e0, rfl, (ge 0 x0 e0 rfl rfl).same S3, n3 e0 List.mem_cons_self, fun H4 S4 => k _ (S3.trans S4)⟩
/-! ### worlds: made -/

def manyE (e : Ed) : Nat := (e.2.2.filter fun r => strIn r.2.1 vTWO).length
def manyP (p : Pg) : Nat := (p.2.map manyE).sum
def manyN (ps : List Pg) : Nat := (ps.map manyP).sum
theorem sum_le {l : List Nat} {b : Nat} (h : ∀ x ∈ l, x ≤ b) : l.sum ≤ b * l.length := by
  induction l with
  | nil => simp
  | cons a r ih =>
    have h1 := h a List.mem_cons_self
    have h2 := ih fun x m => h x (List.mem_cons_of_mem _ m)
    rw [List.sum_cons, List.length_cons, Nat.mul_succ]
    omega
def PgsS (ps : List Pg) : Prop := ps.length ≤ 900 ∧ ∀ p ∈ ps, PgS p
def spMany : Sp := fun vs H Q _ => ∃ (v : V) (ps : List Pg), vs = [v] ∧ IsTupOf IsPg H v ps ∧ PgsS ps ∧ ∀ H', Same H H' → Q (.int (manyN ps)) H'
theorem sum_snoc {α : Type} (l : List α) (f : α → Nat) {i : Nat} {e : α} (h : l[i]? = some e) : ((l.take (i + 1)).map f).sum = ((l.take i).map f).sum + f e := by
  rw [List.take_succ, h, List.map_append, List.sum_append]
  simp
theorem ok_many {f a_IN_TWO_EVENTS : Addr} {fd : FuncData} (F : Fun K "_many_in_two_events" "_many_in_two_events" s__many_in_two_events f fd) (T : Txt mg) (G1 : GlobT K mg "IN_TWO_EVENTS" a_IN_TWO_EVENTS vTWO) : FnOk P w K mg base CX0 1 f fd P__many_in_two_events spMany := by
  have g_IN_TWO_EVENTS := G1.g
  refine F.ok sc__many_in_two_events (fun vs H Q E h => ?_) (fun cdv A outer s H vs Q E hr h => ?_)
  · obtain ⟨v, ps, rfl, _⟩ := h
    rfl
  · obtain ⟨v, ps, rfl, ⟨a, xs, rfl, ha, ln, ga⟩, ⟨n1, n2⟩, k⟩ := h
    have sz := sizeLine_eq
    refine ⟨_, (pss_cons (ps_set (i := 1) sc__many_in_two_events.nd rfl (Or.inl rfl) pe_int)
      (pss_cons (ps_for PassesOwn.never rfl (pi_tup (pv 0)) (pg_tup rfl (pgs_cons (pg_name (i := 2) sc__many_in_two_events.nd rfl (Or.inl rfl)) (pgs_cons (pg_name (i := 3) sc__many_in_two_events.nd rfl (Or.inl rfl)) pgs_nil))) (pss_one (ps_for PassesOwn.never rfl (pi_tup (pv 3)) (pg_tup rfl (pgs_cons (pg_name (i := 2) sc__many_in_two_events.nd rfl (Or.inl rfl)) (pgs_cons (pg_name (i := 2) sc__many_in_two_events.nd rfl (Or.inl rfl)) (pgs_cons (pg_name (i := 4) sc__many_in_two_events.nd rfl (Or.inl rfl)) pgs_nil)))) (pss_one (ps_set (i := 1) sc__many_in_two_events.nd rfl (Or.inl rfl) (pe_op op_add (pv 1) (pe_callB call_len_seq (by rfl) T.n_len (by decide +kernel) (pa_cons (pe_lc (own := [("row", 5)]) (g := gName 5)  rfl sc__many_in_two_events.nd (pi_tup (pv 4)) (blkOk_by (N := N__many_in_two_events) (sc := defScope s__many_in_two_events) (by decide +kernel)) (fun _ _ _ _ _ => (pg_name (i := 5) sc__many_in_two_events.nd rfl (Or.inl rfl))) (fun _ _ _ _ _ => (pts_one (pt_cmpR (op_inK (K := K)) (pe_ix (ix_tupK (K := K)) (pv 5) pe_int (fun _ _ => rfl)) (pe_glob (v := .ref a_IN_TWO_EVENTS) rfl g_IN_TWO_EVENTS rfl) rfl))) (fun _ _ _ _ _ => (pv 5))) pa_nil))))))))
      (pss_one (ps_ret (pv 1))))), ?_⟩
    unfold tLc
    fail "z run"
    with_reducible refine rd_for ?_
    with_reducible refine rd_iT ?_
    fail "z run"
    refine rd_iTa ha (for_tup (K := K) (a := a) (xs := xs) (fun i σ H' => ∃ b c d e, σ = [some (.ref a), some (.int (((ps.take i).map manyP).sum : Nat)), b, c, d, e] ∧ Same H H') ⟨none, none, none, none, rfl, Same.refl _⟩ (fun i σ H' _ ⟨_, _, _, _, _, S⟩ => SqT.of (S _ _ ha)) ?_ ?_)
    · rintro i x σ H' hx ⟨b, c, d, e, rfl, S⟩
      have li : i < ps.length := by
        rw [← ln]
        exact (List.getElem?_eq_some_iff.mp hx).1
      obtain ⟨p, hp⟩ : ∃ p, ps[i]? = some p := ⟨_, List.getElem?_eq_getElem li⟩
      obtain ⟨t, ev, rfl, ht, hes⟩ := (ga i x p hx hp).same S
      obtain ⟨ae, xe, rfl, hae, le, ge⟩ := id hes
      have pS := n2 p (List.mem_of_getElem? hp)
      refine rd_gtup ht rfl ?_
      fail "z run"
      with_reducible refine rd_for ?_
      with_reducible refine rd_iT ?_
      fail "z run"
      refine rd_iTa hae (for_tup (K := K) (a := ae) (xs := xe) (fun j σ H2 => ∃ b d e, σ = [some (.ref a), some (.int ((((ps.take i).map manyP).sum + ((p.2.take j).map manyE).sum : Nat))), b, some (.ref ae), d, e] ∧ Same H' H2) ⟨_, _, _, rfl, Same.refl _⟩ (fun i σ H2 _ ⟨_, _, _, _, S2⟩ => SqT.of (S2 _ _ hae)) ?_ ?_)
      · rintro j y σ H2 hy ⟨b2, d2, e2, rfl, S2⟩
        have lj : j < p.2.length := by
          rw [← le]
          exact (List.getElem?_eq_some_iff.mp hy).1
        obtain ⟨ed, hed⟩ : ∃ ed, p.2[j]? = some ed := ⟨_, List.getElem?_eq_getElem lj⟩
        obtain ⟨t2, rv, wv, rfl, ht2, _, hws⟩ := (ge j y ed hy hed).same S2
        obtain ⟨aw, xw, rfl, haw, lw, gw⟩ := id hws
        have eS := pS.2.2 ed (List.mem_of_getElem? hed)
        refine rd_gtup ht2 rfl ?_
        fail "z run"
        with_reducible refine rd_iT ?_
        fail "z run"
        refine rd_iTa haw fun D hD => lc_tup (K := K) (xs := xw) (fun m H3 => Same H2 H3 ∧ ∃ acc, H3 D = some (.lst acc) ∧ acc.length = ((ed.2.2.take m).filter fun r => strIn r.2.1 vTWO).length) ⟨same_new hD, [], upd_same, rfl⟩ (fun i H3 _ q => SqT.of (q.1 _ _ haw)) ?_ ?_
        · rintro m z H3 hz ⟨S3, acc, hL, la⟩
          have lm : m < ed.2.2.length := by
            rw [← lw]
            exact (List.getElem?_eq_some_iff.mp hz).1
          obtain ⟨r, hr'⟩ : ∃ r, ed.2.2[m]? = some r := ⟨_, List.getElem?_eq_getElem lm⟩
          obtain ⟨t3, rfl, ht3⟩ := (gw m z r hz hr').same S3
          fail "z run"
          refine ⟨rfl, ?_⟩
          fail "z run"
          refine rd_inT (G1.t H3) ?_
          have q := List.take_succ (l := ed.2.2) (i := m)
          rw [hr'] at q
          fail "z run"
          refine rd_iteB (fun c => ?_) (fun c => ?_)
          · fail "z run"
            refine ⟨acc, hL, ?_, fun b u e => (upd_ne (ne_of_none e hD)).trans (S3 b u e), _, upd_same, ?_⟩
            · have := List.length_filter_le (fun r => strIn r.2.1 vTWO) (ed.2.2.take m)
              have := List.length_take_le m ed.2.2
              have := eS.2.1
              omega
            · rw [q, List.filter_append, List.length_append, List.length_append, la]
              show _ = _ + (List.filter (fun r => strIn r.2.1 vTWO) [r]).length
              rw [List.filter_cons, c]
              rfl
          · refine ⟨S3, acc, hL, ?_⟩
            rw [q, List.filter_append, List.length_append, la]
            show _ = _ + (List.filter (fun r => strIn r.2.1 vTWO) [r]).length
            rw [List.filter_cons, c]
            rfl
        · rintro H3 ⟨S3, acc, hL, la⟩
          rw [lw, List.take_length] at la
          have la : acc.length = manyE ed := la
          fail "z run"
          refine ⟨some rv, some (.ref aw), e2, ?_, S2.trans S3⟩
          rw [sum_snoc p.2 manyE hed, ← la]
          show [_, some (V.int ((_ : Nat) + (acc.length : Nat))), _, _, _, _] = _
          rw [← Nat.add_assoc, Int.natCast_add _ acc.length]
      · rintro σ H2 ⟨b2, d2, e2, rfl, S2⟩
        rw [le, List.take_length]
        exact ⟨_, _, _, _, by rw [sum_snoc ps manyP hp]; rfl, S.trans S2⟩
    · rintro σ H2 ⟨b2, c2, d2, e2, rfl, S2⟩
      rw [ln, List.take_length]
      fail "z run"
      exact k _ S2
/-! ### worlds: programs of a world -/
def pgsB (cs : List Str) (ps : List Pg) : Bool := (decide ((1 : Int) ≤ ps.length) && decide ((ps.length : Int) ≤ 3)) && (ps.all (pgB cs) && (ascS (ps.map (·.1)) && decide ((manyN ps : Int) ≤ 2)))
def spPgs : Sp := fun vs H Q _ => ∃ (c v : V) (cs : List Str) (ps : List Pg), vs = [c, v] ∧ IsStrs H c cs ∧ IsTupOf IsPg H v ps ∧ PgsS ps ∧ ∀ H', Same H H' → Q (.bl (pgsB cs ps)) H'
theorem ok_pgs {f : Addr} {fd : FuncData} {t1 t2 t3 t4 : Tok} (F : Fun K "_are_programs" "_are_programs" s__are_programs f fd) (T : Txt mg) (TB : TxtW mg t1 t2 t3 t4) (c_tup : Cal P w K mg base 1 "is_tuple_of" P_is_tuple_of spTupOf) (c_pg : Cal P w K mg base 5 "_is_program" P__is_program spPg)
    (c_asc : Cal P w K mg base 1 "is_ascending" P_is_ascending (spAscL K)) (c_many : Cal P w K mg base 1 "_many_in_two_events" P__many_in_two_events spMany) : FnOk P w K mg base CX0 6 f fd P__are_programs spPgs := by
  obtain ⟨f_t, fd_t, G_is_tuple_of, b_is_tuple_of, g_is_tuple_of, k_is_tuple_of⟩ := c_tup
  obtain ⟨f_p, fd_p, G__is_program, b__is_program, g__is_program, k__is_program⟩ := c_pg
  obtain ⟨f_a, fd_a, G_is_ascending, b_is_ascending, g_is_ascending, k_is_ascending⟩ := c_asc
  obtain ⟨f_m, fd_m, G__many_in_two_events, b__many_in_two_events, g__many_in_two_events, k__many_in_two_events⟩ := c_many
  refine F.ok sc__are_programs (fun vs H Q E h => ?_) (fun cdv A outer s H vs Q E hr h => ?_)
  · obtain ⟨c, v, cs, ps, rfl, _⟩ := h
    rfl
  · obtain ⟨c, v, cs, ps, rfl, hc, hps, nS, k⟩ := h
    obtain ⟨a, xs, rfl, ha, ln, ga⟩ := id hps
    obtain ⟨n1, n2⟩ := id nS
    have k : ∀ H', Same H H' → Q (.bl ((decide ((1 : Int) ≤ ps.length) && decide ((ps.length : Int) ≤ 3)) && (ps.all (pgB cs) && (ascS (ps.map (·.1)) && decide ((manyN ps : Int) ≤ 2))))) H' := k
    refine ⟨_, (pss_cons (ps_if (pt_not (pt_val (pe_call G_is_tuple_of (hr.mono (by decide)) rfl g_is_tuple_of k_is_tuple_of b_is_tuple_of .nil pass0 (pa_cons (pv 1) (pa_cons pe_int (pa_cons pe_int pa_nil)))))) (pss_one (ps_ret pe_bl)) pss_nil)
      (pss_cons (ps_if (pt_not (pt_val (pe_callB (cr_all rfl) (by rfl) T.n_all (by decide +kernel) (pa_cons (pe_lc (own := [("program", 2)]) (g := gName 2) (tt := tYes) rfl sc__are_programs.nd (pi_tup (pv 1)) (blkOk_by (N := N__are_programs) (sc := defScope s__are_programs) (by decide +kernel)) (fun _ _ _ _ _ => (pg_name (i := 2) sc__are_programs.nd rfl (Or.inl rfl))) (fun _ _ _ _ _ => pts_nil) (fun _ _ _ _ _ => (pe_call G__is_program (hr.mono (by decide)) rfl g__is_program k__is_program b__is_program .nil pass0 (pa_cons (pv 0) (pa_cons (pv 2) pa_nil))))) pa_nil)))) (pss_one (ps_ret pe_bl)) pss_nil)
      (pss_cons (ps_if (pt_not (pt_val (pe_call G_is_ascending (hr.mono (by decide)) rfl g_is_ascending k_is_ascending b_is_ascending .nil pass0 (pa_cons (pe_lc (own := [("name", 3), ("_", 4)]) (g := gTup _ 2 (gCons (gName 3) (gCons (gName 4) gNil))) (tt := tYes) rfl sc__are_programs.nd (pi_tup (pv 1)) (blkOk_by (N := N__are_programs) (sc := defScope s__are_programs) (by decide +kernel)) (fun _ _ _ _ _ => (pg_tup rfl (pgs_cons (pg_name (i := 3) sc__are_programs.nd rfl (Or.inl rfl)) (pgs_cons (pg_name (i := 4) sc__are_programs.nd rfl (Or.inl rfl)) pgs_nil)))) (fun _ _ _ _ _ => pts_nil) (fun _ _ _ _ _ => (pv 3))) pa_nil)))) (pss_one (ps_ret pe_bl)) pss_nil)
      (pss_one (ps_ret (pe_cmpR op_le (pe_call G__many_in_two_events (hr.mono (by decide)) rfl g__many_in_two_events k__many_in_two_events b__many_in_two_events .nil pass0 (pa_cons (pv 1) pa_nil)) (pe_glob (v := .int 2) rfl TB.g_MOST_IN_TWO_EVENTS ⟨_, rfl⟩) (nomark _))))))), ?_⟩
    unfold tLc
    fail "z run"
    refine ⟨_, 1, 3, rfl, .tup ha, fun b hb => ?_⟩
    obtain rfl := tupB_yes ha hb
    rw [ln]
    fail "z run"
    refine rd_iteB (fun c => ?_) (fun c => ?_)
    · fail "z run"
      have z := k _ (Same.refl H)
      rw [nb c] at z
      exact z
    rw [nb' c] at k
    fail "z run"
    with_reducible refine rd_iT ?_
    fail "z run"
    refine rd_iTa ha fun D hD => lc_tupV (K := K) (l := ps) (fun p => V.bl (pgB cs p)) (SqT.of ha) hD ln (by omega) ?_ ?_
    · intro i x e H3 Q' hx he S kq
      fail "z run"
      refine ⟨rfl, ?_⟩
      fail "z run"
      exact ⟨_, _, cs, e, rfl, hc.same S, (ga i x e hx he).same S, n2 e (List.mem_of_getElem? he), kq⟩
    intro H3 S3 hL
    fail "z run"
    refine all_of hL ?_
    fail "z run"
    refine rd_iteB (fun c3 => ?_) (fun c3 => ?_)
    · fail "z run"
      have z := k _ S3
      rw [nb c3] at z
      exact z
    rw [nb' c3] at k
    have ha := S3 _ _ ha
    fail "z run"
    with_reducible refine rd_iT ?_
    fail "z run"
    refine rd_iTa ha fun D2 hD2 => lc_tupV (K := K) (l := ps) (fun p => V.str p.1) (SqT.of ha) hD2 ln (by omega) ?_ ?_
    · intro i x e H4 Q' hx he S kq
      obtain ⟨t, es, rfl, ht, _⟩ := ((ga i x e hx he).same S3).same S
      fail "z run"
      refine rd_gtup ht rfl ?_
      fail "z run"
      refine ⟨rfl, ?_⟩
      fail "z run"
      exact kq _ (Same.refl _)
    intro H4 S4 hL2
    have S4' := S3.trans S4
    fail "z run"
    refine ⟨D2, ps.map (·.1), rfl, SqL.of (by rw [List.map_map]; exact hL2), by rw [List.length_map]; exact n1, fun H5 S5 => ?_⟩
    have S5' := S4'.trans S5
    fail "z run"
    refine rd_iteB (fun c4 => ?_) (fun c4 => ?_)
    · fail "z run"
      have z := k _ S5'
      rw [nb c4] at z
      exact z
    rw [nb' c4] at k
    fail "z run"
    refine ⟨_, ps, rfl, hps.same (fun _ _ q => q.same S5') S5', nS, fun H6 S6 => ?_⟩
    fail "z run"
    exact k _ (S5'.trans S6)
/-! ### worlds made -/
abbrev s_World___init__ : Stmt := (inClass (top 41) 0)
abbrev N_World___init__ : List Str := ["self", "narrow", "wide", "columns", "programs", "fits"]
abbrev P_World___init__ : List Str := ["self", "narrow", "wide", "columns", "programs"]
theorem sc_World___init__ : FnScope N_World___init__ P_World___init__ (defScope s_World___init__) := ⟨rfl, rfl, rfl, by decide +kernel, rfl, by decide +kernel, by decide +kernel⟩
abbrev s_editions_of : Stmt := (top 1)
abbrev N_editions_of : List Str := ["world", "program", "name", "editions"]
abbrev P_editions_of : List Str := ["world", "program"]
theorem sc_editions_of : FnScope N_editions_of P_editions_of (defScope s_editions_of) := ⟨rfl, rfl, rfl, by decide +kernel, rfl, by decide +kernel, by decide +kernel⟩
abbrev s_edition_of : Stmt := (top 2)
abbrev N_edition_of : List Str := ["world", "program", "number"]
abbrev P_edition_of : List Str := ["world", "program", "number"]
theorem sc_edition_of : FnScope N_edition_of P_edition_of (defScope s_edition_of) := ⟨rfl, rfl, rfl, by decide +kernel, rfl, by decide +kernel, by decide +kernel⟩
abbrev s_is_mark : Stmt := (top 58)
abbrev N_is_mark : List Str := ["world", "value", "meant", "top", "narrow", "wide", "late", "visit", "_", "word"]
abbrev P_is_mark : List Str := ["world", "value"]
theorem sc_is_mark : FnScope N_is_mark P_is_mark (defScope s_is_mark) := ⟨rfl, rfl, rfl, by decide +kernel, rfl, by decide +kernel, by decide +kernel⟩
abbrev s__is_top : Stmt := (top 60)
abbrev N__is_top : List Str := ["world", "meant", "top"]
abbrev P__is_top : List Str := ["world", "meant", "top"]
theorem sc__is_top : FnScope N__is_top P__is_top (defScope s__is_top) := ⟨rfl, rfl, rfl, by decide +kernel, rfl, by decide +kernel, by decide +kernel⟩
abbrev s__are_late : Stmt := (top 61)
abbrev N__are_late : List Str := ["world", "value", "late"]
abbrev P__are_late : List Str := ["world", "value"]
theorem sc__are_late : FnScope N__are_late P__are_late (defScope s__are_late) := ⟨rfl, rfl, rfl, by decide +kernel, rfl, by decide +kernel, by decide +kernel⟩
abbrev s__is_late : Stmt := (top 62)
abbrev N__is_late : List Str := ["world", "value", "program", "number", "word", "_", "writes", "row"]
abbrev P__is_late : List Str := ["world", "value"]
theorem sc__is_late : FnScope N__is_late P__is_late (defScope s__is_late) := ⟨rfl, rfl, rfl, by decide +kernel, rfl, by decide +kernel, by decide +kernel⟩
abbrev s_is_less : Stmt := (top 19)
abbrev N_is_less : List Str := ["one", "other", "late"]
abbrev P_is_less : List Str := ["one", "other"]
theorem sc_is_less : FnScope N_is_less P_is_less (defScope s_is_less) := ⟨rfl, rfl, rfl, by decide +kernel, rfl, by decide +kernel, by decide +kernel⟩
abbrev s_kin_of : Stmt := (top 20)
abbrev N_kin_of : List Str := ["mark"]
abbrev P_kin_of : List Str := ["mark"]
theorem sc_kin_of : FnScope N_kin_of P_kin_of (defScope s_kin_of) := ⟨rfl, rfl, rfl, by decide +kernel, rfl, by decide +kernel, by decide +kernel⟩
abbrev s_within : Stmt := (top 59)
abbrev N_within : List Str := ["world", "one", "other"]
abbrev P_within : List Str := ["world", "one", "other"]
theorem sc_within : FnScope N_within P_within (defScope s_within) := ⟨rfl, rfl, rfl, by decide +kernel, rfl, by decide +kernel, by decide +kernel⟩
abbrev s_is_count : Stmt := (top 17)
abbrev N_is_count : List Str := ["value"]
abbrev P_is_count : List Str := ["value"]
theorem sc_is_count : FnScope N_is_count P_is_count (defScope s_is_count) := ⟨rfl, rfl, rfl, by decide +kernel, rfl, by decide +kernel, by decide +kernel⟩

structure Wd where
  lo : Int
  hi : Int
  Lo : Int
  Hi : Int
  cs : List Str
  ps : List Pg
def wf (n w c p : V) : List (Str × V) := putF "programs" p (putF "columns" c (putF "wide" w (putF "narrow" n [])))
theorem wf_narrow (n w c p : V) : (wf n w c p).lookup ("narrow" : Str) = some n := by
  unfold wf
  rw [lookup_putF, if_neg (by decide +kernel), lookup_putF, if_neg (by decide +kernel), lookup_putF, if_neg (by decide +kernel), lookup_putF, if_pos rfl]
theorem wf_wide (n w c p : V) : (wf n w c p).lookup ("wide" : Str) = some w := by
  unfold wf
  rw [lookup_putF, if_neg (by decide +kernel), lookup_putF, if_neg (by decide +kernel), lookup_putF, if_pos rfl]
theorem wf_columns (n w c p : V) : (wf n w c p).lookup ("columns" : Str) = some c := by
  unfold wf
  rw [lookup_putF, if_neg (by decide +kernel), lookup_putF, if_pos rfl]
theorem wf_programs (n w c p : V) : (wf n w c p).lookup ("programs" : Str) = some p := by
  unfold wf
  rw [lookup_putF, if_pos rfl]
structure WorldT (K : PySem.W.Frag) (W : Addr) : Prop where
  cl : Cls K W
  n_narrow : NoAttr K W "narrow"
  n_wide : NoAttr K W "wide"
  n_columns : NoAttr K W "columns"
  n_programs : NoAttr K W "programs"
def WdP (C : Addr) (H : Hp) (n w : Addr) (c p : V) (x : Wd) : Prop := IsKind C H n x.lo x.hi ∧ IsKind C H w x.Lo x.Hi ∧ IsStrs H c x.cs ∧ IsTupOf IsPg H p x.ps
def WdS (x : Wd) : Prop := x.cs.length ≤ 900 ∧ (∀ c ∈ x.cs, c.length ≤ 1000) ∧ PgsS x.ps
def wdB (x : Wd) : Prop := kindsB x.lo x.hi x.Lo x.Hi = true ∧ colsB x.cs = true ∧ pgsB x.cs x.ps = true
def IsWd (C W : Addr) (H : Hp) (a : Addr) (x : Wd) : Prop := ∃ dx n w c p, H a = some (.ins W dx (wf (.ref n) (.ref w) c p)) ∧ WdP C H n w c p x
theorem WdP.same {C n w : Addr} {c p : V} {x : Wd} {H H' : Hp} (h : WdP C H n w c p x) (s : Same H H') : WdP C H' n w c p x := ⟨h.1.same s, h.2.1.same s, h.2.2.1.same s, h.2.2.2.same (fun _ _ q => q.same s) s⟩
theorem IsWd.same {C W a : Addr} {x : Wd} {H H' : Hp} (h : IsWd C W H a x) (s : Same H H') : IsWd C W H' a x := by
  obtain ⟨dx, n, w, c, p, e, g⟩ := h
  exact ⟨dx, n, w, c, p, s _ _ e, g.same s⟩
def spWd (C W : Addr) : Sp := fun vs H Q _ => ∃ (a dx n w : Addr) (c p : V) (x : Wd), vs = [.ref a, .ref n, .ref w, c, p] ∧ WdP C H n w c p x ∧ WdS x ∧ wdB x ∧ H a = some (.ins W dx []) ∧
  ∀ H' : Hp, Kp a H H' → H' a = some (.ins W dx (wf (.ref n) (.ref w) c p)) → Q .non H'
theorem ok_Wd {f C W : Addr} {fd : FuncData} (F : Fun K "__init__" "World.__init__" s_World___init__ f fd) (T : Txt mg) (WT : WorldT K W) (c_k : Cal P w K mg base 3 "_are_kinds" P__are_kinds (spKinds C)) (c_c : Cal P w K mg base 2 "_are_columns" P__are_columns spCols)
    (c_p : Cal P w K mg base 6 "_are_programs" P__are_programs spPgs) : FnOk P w K mg base CX0 7 f fd P_World___init__ (spWd C W) := by
  obtain ⟨f_k, fd_k, G__are_kinds, b__are_kinds, g__are_kinds, k__are_kinds⟩ := c_k
  obtain ⟨f_c, fd_c, G__are_columns, b__are_columns, g__are_columns, k__are_columns⟩ := c_c
  obtain ⟨f_p, fd_p, G__are_programs, b__are_programs, g__are_programs, k__are_programs⟩ := c_p
  refine F.ok sc_World___init__ (fun vs H Q E h => ?_) (fun cdv A outer s H vs Q E hr h => ?_)
  · obtain ⟨a, dx, n, w, c, p, x, rfl, _⟩ := h
    rfl
  · obtain ⟨a, dx, n, w, c, p, x, rfl, hP, hS, ⟨b1, b2, b3⟩, ha, k⟩ := h
    refine ⟨_, (pss_cons (ps_set (i := 5) sc_World___init__.nd rfl (Or.inl rfl) (pe_and (pe_call G__are_kinds (hr.mono (by decide)) rfl g__are_kinds k__are_kinds b__are_kinds .nil pass0 (pa_cons (pv 1) (pa_cons (pv 2) pa_nil))) (pe_and (pe_call G__are_columns (hr.mono (by decide)) rfl g__are_columns k__are_columns b__are_columns .nil pass0 (pa_cons (pv 3) pa_nil)) (pe_one (pe_call G__are_programs (hr.mono (by decide)) rfl g__are_programs k__are_programs b__are_programs .nil pass0 (pa_cons (pv 3) (pa_cons (pv 4) pa_nil)))))))
      (pss_cons (ps_if (pt_not (pt_val (pv 5))) (pss_one ps_never) pss_nil)
      (pss_cons (ps_fld (pv 0) (pv 1) rfl)
      (pss_cons (ps_fld (pv 0) (pv 2) rfl)
      (pss_cons (ps_fld (pv 0) (pv 3) rfl)
      (pss_one (ps_fld (pv 0) (pv 4) rfl))))))), ?_⟩
    fail "z run"
    refine ⟨n, w, x.lo, x.hi, x.Lo, x.Hi, rfl, hP.1, hP.2.1, ?_⟩
    rw [b1]
    fail "z run"
    refine ⟨c, x.cs, rfl, hP.2.2.1, hS.1, hS.2.1, fun H1 S1 => ?_⟩
    rw [b2]
    fail "z run"
    refine ⟨c, p, x.cs, x.ps, rfl, hP.2.2.1.same S1, hP.2.2.2.same (fun _ _ q => q.same S1) S1, hS.2.2, fun H2 S2 => ?_⟩
    rw [b3]
    fail "z run"
    refine iteF ?_
    fail "z run"
    refine rd_sfldI (S2 _ _ (S1 _ _ ha)) WT.cl WT.n_narrow (by decide) ?_
    fail "z run"
    have l1 := length_putF "narrow" (.ref n) []
    refine rd_sfldI upd_same WT.cl WT.n_wide (by show _ < 1000; simp only [List.length_nil] at l1; omega) ?_
    fail "z run"
    have l2 := length_putF "wide" (.ref w) (putF "narrow" (.ref n) [])
    refine rd_sfldI upd_same WT.cl WT.n_columns (by show _ < 1000; simp only [List.length_nil] at l1; omega) ?_
    fail "z run"
    have l3 := length_putF "columns" c (putF "wide" (.ref w) (putF "narrow" (.ref n) []))
    refine rd_sfldI upd_same WT.cl WT.n_programs (by show _ < 1000; simp only [List.length_nil] at l1; omega) ?_
    exact k _ (Kp.put (Kp.put (Kp.put (Kp.put (fun b o ne e => S2 _ _ (S1 _ _ e)))))) upd_same
theorem rd_World {C W n w : Addr} {c p : V} {H : Hp} {E : XK} {x : Wd} {R : Addr → Hp → Prop} (hP : WdP C H n w c p x) (hS : WdS x) (hB : wdB x) (k : ∀ (a : Addr) (H' : Hp), H a = none → Same H H' → IsWd C W H' a x → R a H') :
    ∀ y dx, H y = none → H dx = none → dx ≠ y → spWd C W (.ref y :: ([V.ref n, V.ref w, c, p] ++ [])) (upd (upd H dx (.own y)) y (.ins W dx [])) (fun v H2 => v = .non ∧ R y H2) E := by
  intro y dx ny nd ne
  have S0 : Same H (upd (upd H dx (.own y)) y (.ins W dx [])) := fun b o e => (upd_ne (ne_of_none e ny)).trans ((upd_ne (ne_of_none e nd)).trans e)
  refine ⟨y, dx, n, w, c, p, x, rfl, hP.same S0, hS, hB, upd_same, fun H' kp hy => ?_⟩
  have S1 : Same H H' := fun b o e => kp b o (ne_of_none e ny) (S0 _ _ e)
  exact ⟨rfl, k y H' ny S1 ⟨dx, n, w, c, p, hy, hP.same S1⟩⟩
/-! ### editions of a world, late numbers -/
abbrev Lt := Str × Int × Str
def edsOf : List Pg → Str → List Ed
  | [], _ => []
  | p :: r, x => if p.1 = x then p.2 else edsOf r x
theorem eds_at {ps : List Pg} {i : Nat} {p : Pg} {x : Str} (h : ps[i]? = some p) : edsOf (ps.drop i) x = if p.1 = x then p.2 else edsOf (ps.drop (i + 1)) x := by
  obtain ⟨l, e⟩ := List.getElem?_eq_some_iff.mp h
  rw [List.drop_eq_getElem_cons l, e]
  rfl
theorem eds_mem : ∀ {ps : List Pg} {x : Str} {e : Ed}, e ∈ edsOf ps x → ∃ p ∈ ps, e ∈ p.2
  | [], _, _, h => by cases h
  | p :: r, x, e, h => by
    unfold edsOf at h
    split at h
    · exact ⟨p, List.mem_cons_self, h⟩
    · obtain ⟨q, m, g⟩ := eds_mem h
      exact ⟨q, List.mem_cons_of_mem _ m, g⟩
def spEds (C W : Addr) : Sp := fun vs H Q _ => ∃ (a : Addr) (pr : Str) (x : Wd), vs = [.ref a, .str pr] ∧ IsWd C W H a x ∧ x.ps.length ≤ 900 ∧ ∀ v H', Same H H' → IsTupOf IsEd H' v (edsOf x.ps pr) → Q v H'
theorem ok_eds {f C W : Addr} {fd : FuncData} (F : Fun K "editions_of" "editions_of" s_editions_of f fd) (WT : WorldT K W) : FnOk P w K mg base CX0 1 f fd P_editions_of (spEds C W) := by
  refine F.ok sc_editions_of (fun vs H Q E h => ?_) (fun cdv A outer s H vs Q E hr h => ?_)
  · obtain ⟨a, pr, x, rfl, _⟩ := h
    rfl
  · obtain ⟨a, pr, x, rfl, ⟨dx, n, nw, c, p, ha, hP⟩, few, k⟩ := h
    obtain ⟨ap, xs, rfl, hap, ln, ga⟩ := id hP.2.2.2
    refine ⟨_, (pss_cons (ps_for PassesOwn.never rfl (pi_tup (pe_fld (pv 0) rfl)) (pg_tup rfl (pgs_cons (pg_name (i := 2) sc_editions_of.nd rfl (Or.inl rfl)) (pgs_cons (pg_name (i := 3) sc_editions_of.nd rfl (Or.inl rfl)) pgs_nil))) (pss_one (ps_if (pt_cmpR op_eq (pv 2) (pv 1) (nomark _)) (pss_one (ps_ret (pv 3))) pss_nil)))
      (pss_one (ps_ret (pe_tup pa_nil)))), ?_⟩
    fail "z run"
    with_reducible refine rd_for ?_
    with_reducible refine rd_iT ?_
    fail "z run"
    refine ⟨_, _, _, _, _, rfl, ha, WT.cl, WT.n_programs, wf_programs _ _ _ _, ?_⟩
    refine rd_iTa hap (for_tup (K := K) (a := ap) (xs := xs) (fun i σ H' => ∃ b d, σ = [some (.ref a), some (.str pr), b, d] ∧ H' = H ∧ edsOf x.ps pr = edsOf (x.ps.drop i) pr) ⟨_, _, rfl, rfl, rfl⟩ (fun i σ H' _ ⟨_, _, _, e, _⟩ => by rw [e]; exact SqT.of hap) ?_ ?_)
    · rintro i y σ H' hy ⟨b, d, rfl, rfl, hall⟩
      have li : i < x.ps.length := by
        rw [← ln]
        exact (List.getElem?_eq_some_iff.mp hy).1
      obtain ⟨p, hp⟩ : ∃ p, x.ps[i]? = some p := ⟨_, List.getElem?_eq_getElem li⟩
      obtain ⟨t, es, rfl, ht, hes⟩ := ga i y p hy hp
      have hall := hall.trans (eds_at hp)
      refine rd_gtup ht rfl ?_
      fail "z run"
      rw [dec_str]
      refine rd_iteB (fun c => ?_) (fun c => ?_)
      · fail "z run"
        rw [if_pos (of_decide_eq_true c)] at hall
        exact k _ _ (Same.refl _) (by rw [hall]; exact hes)
      · rw [if_neg (of_decide_eq_false c)] at hall
        fail "z run"
        exact ⟨_, _, rfl, rfl, hall⟩
    · rintro σ H' ⟨b, d, rfl, rfl, hall⟩
      rw [ln, List.drop_length] at hall
      fail "z run"
      intro t ht
      exact k _ _ (same_new ht) (by rw [hall]; exact ⟨t, [], rfl, upd_same, rfl, fun i y e hy => by cases hy⟩)
def spEdOf (C W : Addr) : Sp := fun vs H Q _ => ∃ (a : Addr) (pr : Str) (n : Nat) (x : Wd) (e : Ed), vs = [.ref a, .str pr, .int n] ∧ IsWd C W H a x ∧ x.ps.length ≤ 900 ∧ (edsOf x.ps pr)[n]? = some e ∧ ∀ v H', Same H H' → IsEd H' v e → Q v H'
theorem ok_edof {f C W : Addr} {fd : FuncData} (F : Fun K "edition_of" "edition_of" s_edition_of f fd) (c_eds : Cal P w K mg base 1 "editions_of" P_editions_of (spEds C W)) : FnOk P w K mg base CX0 2 f fd P_edition_of (spEdOf C W) := by
  obtain ⟨f_e, fd_e, G_editions_of, b_editions_of, g_editions_of, k_editions_of⟩ := c_eds
  refine F.ok sc_edition_of (fun vs H Q E h => ?_) (fun cdv A outer s H vs Q E hr h => ?_)
  · obtain ⟨a, pr, n, x, e, rfl, _⟩ := h
    rfl
  · obtain ⟨a, pr, n, x, e, rfl, ha, few, he, k⟩ := h
    refine ⟨_, (pss_one (ps_ret (pe_ix ix_tup (pe_call G_editions_of (hr.mono (by decide)) rfl g_editions_of k_editions_of b_editions_of .nil pass0 (pa_cons (pv 0) (pa_cons (pv 1) pa_nil))) (pv 2) (fun _ _ => rfl)))), ?_⟩
    fail "z run"
    refine ⟨a, pr, x, rfl, ha, few, fun v H1 S1 ⟨ae, xs, ev, hae, ln, ge⟩ => ?_⟩
    subst ev
    have ln' : n < xs.length := by
      rw [ln]
      exact (List.getElem?_eq_some_iff.mp he).1
    fail "z run"
    exact rd_ixT hae (atI_nat (List.getElem?_eq_getElem ln')) (k _ _ S1 (ge n _ e (List.getElem?_eq_getElem ln') he))
theorem iteT' {c : Bool} {A B : Prop} [inst : Decidable (c = true)] (h : A) (e : c = true := by rfl) : @ite Prop (c = true) inst A B := by
  rw [if_pos e]
  exact h
theorem iteF' {c : Bool} {A B : Prop} [inst : Decidable (c = true)] (h : B) (e : c = false := by rfl) : @ite Prop (c = true) inst A B := by
  rw [if_neg (by rw [e]; decide)]
  exact h
def spCount : Sp := fun vs H Q _ => ∃ n : Int, vs = [.int n] ∧ Q (.bl (decide (0 ≤ n))) H
theorem ok_count {f : Addr} {fd : FuncData} (F : Fun K "is_count" "is_count" s_is_count f fd) (c_is : Cal P w K mg base 1 "is_integer" P_is_integer spIsInt) : FnOk P w K mg base CX0 2 f fd P_is_count spCount := by
  obtain ⟨f_is, fd_is, G_is_integer, b_is_integer, g_is_integer, k_is_integer⟩ := c_is
  refine F.ok sc_is_count (fun vs H Q E h => ?_) (fun cdv A outer s H vs Q E hr h => ?_)
  · obtain ⟨n, rfl, _⟩ := h
    rfl
  · obtain ⟨n, rfl, k⟩ := h
    refine ⟨_, (pss_one (ps_ret (pe_and (pe_call G_is_integer (hr.mono (by decide)) rfl g_is_integer k_is_integer b_is_integer .nil pass0 (pa_cons (pv 0) pa_nil)) (pe_one (pe_cmpR op_ge (pv 0) pe_int (nomark _)))))), ?_⟩
    fail "z run"
    refine ⟨_, rfl, .int n, ?_⟩
    fail "z run"
    refine iteT' ?_
    fail "z run"
    exact k
theorem any_of {K : PySem.W.Frag} {H : Hp} {Q : VK} {D : Addr} {α : Type} {l : List α} {f : α → Bool} (h : H D = some (.lst (l.map fun e => V.bl (f e)))) (k : Q (.bl (l.any f)) H) : rAny K [.ref D] H Q := by
  refine ⟨D, l.map f, rfl, SqL.of (by rw [List.map_map]; exact h), ?_⟩
  rw [show (l.map f).any id = l.any f by rw [List.any_map]; rfl]
  exact k
abbrev vLATE : List Str := ["same", "cut", "old", "far"]
def IsLt (H : Hp) (v : V) (l : Lt) : Prop := ∃ a, v = .ref a ∧ H a = some (.tup [.str l.1, .int l.2.1, .str l.2.2])
theorem IsLt.same {v : V} {l : Lt} {H H' : Hp} (h : IsLt H v l) (s : Same H H') : IsLt H' v l := by
  obtain ⟨a, e, h⟩ := h
  exact ⟨a, e, s _ _ h⟩
def lateP (x : Wd) (l : Lt) : Prop := strIn l.2.2 vLATE = true ∧ ∃ (n : Nat) (e : Ed), l.2.1 = n ∧ (edsOf x.ps l.1)[n]? = some e ∧ (e.2.2.any fun r => strIn r.2.1 vTWO) = true
def spIsLate (C W : Addr) : Sp := fun vs H Q _ => ∃ (a : Addr) (v : V) (x : Wd) (l : Lt), vs = [.ref a, v] ∧ IsWd C W H a x ∧ PgsS x.ps ∧ IsLt H v l ∧ lateP x l ∧ ∀ H', Same H H' → Q (.bl true) H'
theorem ok_late {f C W a_LATE_WORDS a_IN_TWO_EVENTS : Addr} {fd : FuncData} (F : Fun K "_is_late" "_is_late" s__is_late f fd) (T : Txt mg) (n_any : mg "any" = none) (G1 : GlobT K mg "LATE_WORDS" a_LATE_WORDS vLATE) (G2 : GlobT K mg "IN_TWO_EVENTS" a_IN_TWO_EVENTS vTWO) (c_tup : Cal P w K mg base 1 "is_tuple_of" P_is_tuple_of spTupOf)
    (c_count : Cal P w K mg base 2 "is_count" P_is_count spCount) (c_eds : Cal P w K mg base 1 "editions_of" P_editions_of (spEds C W)) (c_ed : Cal P w K mg base 2 "edition_of" P_edition_of (spEdOf C W)) : FnOk P w K mg base CX0 3 f fd P__is_late (spIsLate C W) := by
  obtain ⟨f_t, fd_t, G_is_tuple_of, b_is_tuple_of, g_is_tuple_of, k_is_tuple_of⟩ := c_tup
  obtain ⟨f_c, fd_c, G_is_count, b_is_count, g_is_count, k_is_count⟩ := c_count
  obtain ⟨f_e, fd_e, G_editions_of, b_editions_of, g_editions_of, k_editions_of⟩ := c_eds
  obtain ⟨f_o, fd_o, G_edition_of, b_edition_of, g_edition_of, k_edition_of⟩ := c_ed
  have g_LATE_WORDS := G1.g
  have g_IN_TWO_EVENTS := G2.g
  refine F.ok sc__is_late (fun vs H Q E h => ?_) (fun cdv A outer s H vs Q E hr h => ?_)
  · obtain ⟨a, v, x, l, rfl, _⟩ := h
    rfl
  · obtain ⟨a, v, x, ⟨pr, nn, wd⟩, rfl, hw, hS, ⟨t, rfl, ht⟩, ⟨h1, n, e, hn, he, h2⟩, k⟩ := h
    obtain rfl : nn = n := hn
    have h1 : strIn wd vLATE = true := h1
    have he : (edsOf x.ps pr)[n]? = some e := he
    have ht : H t = some (.tup [.str pr, .int n, .str wd]) := ht
    refine ⟨_, (pss_cons (ps_if (pt_not (pt_val (pe_call G_is_tuple_of (hr.mono (by decide)) rfl g_is_tuple_of k_is_tuple_of b_is_tuple_of .nil pass0 (pa_cons (pv 1) (pa_cons pe_int (pa_cons pe_int pa_nil)))))) (pss_one (ps_ret pe_bl)) pss_nil)
      (pss_cons (ps_asg (pv 1) (pg_tup rfl (pgs_cons (pg_name (i := 2) sc__is_late.nd rfl (Or.inl rfl)) (pgs_cons (pg_name (i := 3) sc__is_late.nd rfl (Or.inl rfl)) (pgs_cons (pg_name (i := 4) sc__is_late.nd rfl (Or.inl rfl)) pgs_nil)))))
      (pss_cons (ps_if (PW.pt (pw_or (pt_cmpR op_notIn_seq (pv 4) (pe_glob (v := .ref a_LATE_WORDS) rfl g_LATE_WORDS rfl) rfl) (pw_or (pt_not (pt_val (pe_call G_is_count (hr.mono (by decide)) rfl g_is_count k_is_count b_is_count .nil pass0 (pa_cons (pv 3) pa_nil)))) (pw_or1 (pt_cmpR op_ge (pv 3) (pe_callB call_len_seq (by rfl) T.n_len (by decide +kernel) (pa_cons (pe_call G_editions_of (hr.mono (by decide)) rfl g_editions_of k_editions_of b_editions_of .nil pass0 (pa_cons (pv 0) (pa_cons (pv 2) pa_nil))) pa_nil)) (nomark _)))))) (pss_one (ps_ret pe_bl)) pss_nil)
      (pss_cons (ps_asg (pe_call G_edition_of (hr.mono (by decide)) rfl g_edition_of k_edition_of b_edition_of .nil pass0 (pa_cons (pv 0) (pa_cons (pv 2) (pa_cons (pv 3) pa_nil)))) (pg_tup rfl (pgs_cons (pg_name (i := 5) sc__is_late.nd rfl (Or.inl rfl)) (pgs_cons (pg_name (i := 5) sc__is_late.nd rfl (Or.inl rfl)) (pgs_cons (pg_name (i := 6) sc__is_late.nd rfl (Or.inl rfl)) pgs_nil)))))
      (pss_one (ps_ret (pe_callB (cr_any rfl) (by rfl) n_any (by decide +kernel) (pa_cons (pe_lc (own := [("row", 7)]) (g := gName 7) (tt := tYes) rfl sc__is_late.nd (pi_tup (pv 6)) (blkOk_by (N := N__is_late) (sc := defScope s__is_late) (by decide +kernel)) (fun _ _ _ _ _ => (pg_name (i := 7) sc__is_late.nd rfl (Or.inl rfl))) (fun _ _ _ _ _ => pts_nil) (fun _ _ _ _ _ => (pe_cmpR (op_inK (K := K)) (pe_ix (ix_tupK (K := K)) (pv 7) pe_int (fun _ _ => rfl)) (pe_glob (v := .ref a_IN_TWO_EVENTS) rfl g_IN_TWO_EVENTS rfl) rfl))) pa_nil)))))))), ?_⟩
    unfold tLc
    fail "z run"
    refine ⟨_, 3, 3, rfl, .tup ht, fun b hb => ?_⟩
    obtain rfl := tupB_yes ht hb
    fail "z run"
    refine iteF ?_
    fail "z run"
    refine rd_gtup ht rfl ?_
    fail "z run"
    refine rd_ninT (G1.t H) ?_
    rw [h1]
    fail "z run"
    refine iteF' ?_
    fail "z run"
    refine ⟨(n : Nat), rfl, ?_⟩
    rw [decide_eq_true (by omega : (0 : Int) ≤ (n : Int))]
    fail "z run"
    refine iteF' ?_
    fail "z run"
    refine ⟨a, pr, x, rfl, hw, hS.1, fun v H1 S1 ⟨ae, xs, ev, hae, ln, ge⟩ => ?_⟩
    subst ev
    obtain ⟨ln', _⟩ := List.getElem?_eq_some_iff.mp he
    have ex : n < xs.length := by omega
    fail "z run"
    rw [decide_eq_false (by omega : ¬ ((xs.length : Int) ≤ (n : Int)))]
    refine iteF ?_
    fail "z run"
    refine ⟨a, pr, n, x, e, rfl, hw.same S1, hS.1, he, fun v2 H2 S2 ⟨a3, rv, wv, ev3, h3, _, hws⟩ => ?_⟩
    subst ev3
    fail "z run"
    refine rd_gtup h3 rfl ?_
    obtain ⟨aw, xw, rfl, haw, lw, gw⟩ := id hws
    obtain ⟨p, hp, hep⟩ := eds_mem (List.mem_of_getElem? he)
    have eS := (hS.2 p hp).2.2 e hep
    fail "z run"
    with_reducible refine rd_iT ?_
    fail "z run"
    refine rd_iTa haw fun D hD => lc_tupV (K := K) (l := e.2.2) (fun r => V.bl (strIn r.2.1 vTWO)) (SqT.of haw) hD lw (by have := eS.2.1; omega) ?_ ?_
    · intro i y r H3 Q' hy hr' S kq
      obtain ⟨t4, rfl, ht4⟩ := (gw i y r hy hr').same S
      fail "z run"
      refine ⟨rfl, ?_⟩
      fail "z run"
      exact rd_inT (G2.t H3) (kq _ (Same.refl _))
    intro H3 S3 hL
    fail "z run"
    refine any_of hL ?_
    rw [h2]
    exact k _ ((S1.trans S2).trans S3)
/-! ### late numbers: their order -/

def rLtD (K : PySem.W.Frag) : R2 := fun x y H Q => ∃ d e, Dp K H x d ∧ Dp K H y e ∧ PySem.W.alike d e = true ∧ d ≠ .none ∧ d.depth ≤ 64 ∧ Q (.bl (PySem.W.dataLt d e)) H
theorem op_ltD {X : Cx} {K : PySem.W.Frag} (hu : X.A.units + 64 < cLine) (h : X.K = K := by rfl) : OpR X (compareOp .Lt) (rLtD K) := by
  subst h
  intro pins s σ H x y v u Q I rx ry h
  obtain ⟨d, e, hd, he, al, nn, sd, q⟩ := h
  obtain ⟨as, r1⟩ := Dp.reads I d x v hd rx
  obtain ⟨bs, r2⟩ := Dp.reads I e y u he ry
  refine PySem.W.lt_data r1 r2 al nn ?_ ⟨.bl _, H, I, rfl, q⟩
  have h2 : min d.depth e.depth ≤ d.depth := Nat.min_le_left _ _
  omega
def rInDD (K : PySem.W.Frag) : R2 := fun x y H Q => ∃ d ds, Dp K H x d ∧ Dp K H y (.tuple ds) ∧ SeqAt.shaped d = true ∧ SeqAt.shaped (.tuple ds) = true ∧ Q (.bl (ds.any fun z => PyData.eqv z d)) H
theorem op_inDD {X : Cx} {K : PySem.W.Frag} (hu : X.A.units + 70 < cLine) (h : X.K = K := by rfl) : OpR X (compareOp .In) (rInDD K) := by
  subst h
  intro pins s σ H x y v u Q I rx ry h
  obtain ⟨d, ds, hd, he, sd, se, q⟩ := h
  obtain ⟨as, r1⟩ := Dp.reads I d x v hd rx
  obtain ⟨bs, r2⟩ := Dp.reads I (.tuple ds) y u he ry
  exact SeqAt.in_tuple_reads r2 r1 (SeqAt.canLay_of_shaped se) (SeqAt.canLay_of_shaped sd) (room_in_shaped sd (by omega)) ⟨.bl _, H, I, rfl, q⟩
def lt3 (l : Lt) : PySem.W.T3 Str Int Str := ⟨l.1, l.2.1, l.2.2⟩
def lateD (l : Lt) : PyData := .tuple [.str l.1, .int l.2.1, .str l.2.2]
def ltL (p q : Lt) : Bool := if p.1 = q.1 then (if p.2.1 = q.2.1 then decide (cpl p.2.2 < cpl q.2.2) else decide (p.2.1 < q.2.1)) else decide (cpl p.1 < cpl q.1)
theorem lateD_lt (p q : Lt) : PySem.W.dataLt (lateD p) (lateD q) = ltL p q := PySem.W.DatumOrd.lt_eq (lt3 p) (lt3 q)
theorem lateD_alike (p q : Lt) : PySem.W.alike (lateD p) (lateD q) = true := PySem.W.DatumOrd.alike (lt3 p) (lt3 q)
theorem lateD_eqv (p q : Lt) : PyData.eqv (lateD p) (lateD q) = decide (p = q) := by
  rw [show PyData.eqv (lateD p) (lateD q) = decide (lt3 p = lt3 q) from PySem.W.Datum.eqv (lt3 p) (lt3 q)]
  refine decide_eq_decide.mpr ⟨fun h => ?_, fun h => by rw [h]⟩
  obtain ⟨a, b, c⟩ := p
  obtain ⟨a', b', c'⟩ := q
  injection h with h1 h2 h3
  rw [show a = a' from h1, show b = b' from h2, show c = c' from h3]
def LtOk (l : Lt) : Prop := PyData.strOk l.1 = true ∧ PyData.strOk l.2.2 = true
theorem lateD_lay {l : Lt} (h : LtOk l) : (lateD l).canLay0 = true := by simp [lateD, PyData.canLay0, PyData.canLayAll0, h.1, h.2]
theorem lateD_depth (l : Lt) : (lateD l).depth = 1 := by simp [lateD, PyData.depth, PyData.depthAll]
theorem lateD_shaped {l : Lt} (ok : LtOk l) : SeqAt.shaped (lateD l) = true := by
  have h := lateD_depth l
  show ((lateD l).canLay0 && decide ((lateD l).depth ≤ 64)) = true
  rw [Bool.and_eq_true]
  exact ⟨lateD_lay ok, decide_eq_true (by omega)⟩
theorem lateDs_lay : ∀ {ls : List Lt}, (∀ l ∈ ls, LtOk l) → PyData.canLayAll0 (ls.map lateD) = true
  | [], _ => by simp [PyData.canLayAll0]
  | l :: ls, h => by simp [PyData.canLayAll0, lateD_lay (h l List.mem_cons_self), lateDs_lay fun x m => h x (List.mem_cons_of_mem _ m)]
theorem lateDs_depth : ∀ ls : List Lt, PyData.depthAll (ls.map lateD) ≤ 1
  | [] => by simp [PyData.depthAll]
  | l :: ls => by
    have h1 := lateDs_depth ls
    have h2 := lateD_depth l
    simp only [List.map_cons, PyData.depthAll]
    omega
theorem lateDs_shaped {ls : List Lt} (ok : ∀ l ∈ ls, LtOk l) : SeqAt.shaped (.tuple (ls.map lateD)) = true := by
  have h1 := lateDs_depth ls
  have h2 : PyData.depth (.tuple (ls.map lateD)) ≤ 64 := by
    simp only [PyData.depth]
    omega
  show (PyData.canLay0 (.tuple (ls.map lateD)) && decide (PyData.depth (.tuple (ls.map lateD)) ≤ 64)) = true
  rw [Bool.and_eq_true]
  exact ⟨by simp only [PyData.canLay0]; exact lateDs_lay ok, decide_eq_true h2⟩
theorem lateDs_any (ls : List Lt) (l : Lt) : ((ls.map lateD).any fun z => PyData.eqv z (lateD l)) = decide (l ∈ ls) := by
  induction ls with
  | nil => rfl
  | cons q r ih =>
    rw [List.map_cons, List.any_cons, ih, lateD_eqv, ← Bool.decide_or]
    refine decide_eq_decide.mpr ?_
    rw [List.mem_cons]
    exact ⟨fun h => h.imp Eq.symm id, fun h => h.imp Eq.symm id⟩
theorem IsLt.dp {K : PySem.W.Frag} {H : Hp} {v : V} {l : Lt} (h : IsLt H v l) : Dp K H v (lateD l) := by
  obtain ⟨a, rfl, e⟩ := h
  exact .tup (SqT.of e) (.cons (.str _) (.cons (.int _) (.cons (.str _) .nil)))
theorem dpAll_lts {K : PySem.W.Frag} {H : Hp} : ∀ {xs : List V} {ls : List Lt}, xs.length = ls.length → (∀ (i : Nat) (x : V) (e : Lt), xs[i]? = some x → ls[i]? = some e → IsLt H x e) → DpAll K H xs (ls.map lateD)
  | [], [], _, _ => .nil
  | [], _ :: _, h, _ => by cases h
  | _ :: _, [], h, _ => by cases h
  | x :: xs, l :: ls, h, g => .cons (g 0 x l rfl rfl).dp (dpAll_lts (Nat.succ.inj h) fun i y e h1 h2 => g (i + 1) y e h1 h2)
theorem IsLts.dp {K : PySem.W.Frag} {H : Hp} {v : V} {ls : List Lt} (h : IsTupOf IsLt H v ls) : Dp K H v (.tuple (ls.map lateD)) := by
  obtain ⟨a, xs, rfl, e, n, g⟩ := h
  exact .tup (SqT.of e) (dpAll_lts n g)
theorem IsLts.same {v : V} {ls : List Lt} {H H' : Hp} (h : IsTupOf IsLt H v ls) (s : Same H H') : IsTupOf IsLt H' v ls := IsTupOf.same (fun _ _ q => q.same s) h s
def ascL (ls : List Lt) : Bool := (ls.zip (ls.drop 1)).all fun p => ltL p.1 p.2
def spAscD : Sp := fun vs H Q _ => ∃ (v : V) (ls : List Lt), vs = [v] ∧ IsTupOf IsLt H v ls ∧ ls.length ≤ 900 ∧ ∀ H', Same H H' → Q (.bl (ascL ls)) H'
theorem zipD_at {xs : List V} {ls : List Lt} {H : Hp} {i : Nat} {x y : V} {e : Lt × Lt} (g : ∀ (i : Nat) (x : V) (e : Lt), xs[i]? = some x → ls[i]? = some e → IsLt H x e) (hx : xs[i]? = some x) (hy : (xs.drop 1)[i]? = some y) (he : (ls.zip (ls.drop 1))[i]? = some e) : IsLt H x e.1 ∧ IsLt H y e.2 := by
  rw [List.getElem?_zip_eq_some] at he
  obtain ⟨e1, e2⟩ := he
  rw [List.getElem?_drop] at hy e2
  exact ⟨g i x _ hx e1, g _ y _ hy e2⟩
theorem ok_ascD {f : Addr} {fd : FuncData} (F : Fun K "is_ascending" "is_ascending" s_is_ascending f fd) (T : Txt mg) (n_zip : mg "zip" = none) : FnOk P w K mg base CX0 1 f fd P_is_ascending spAscD := by
  refine F.ok sc_is_ascending (fun vs H Q E h => ?_) (fun cdv A outer s H vs Q E hr h => ?_)
  · obtain ⟨v, l, rfl, _⟩ := h
    rfl
  · obtain ⟨v, l, rfl, ⟨a, xs, rfl, hH, ln, g⟩, few1, k⟩ := h
    have ha : SqT K H a xs := SqT.of hH
    have zl : (l.zip (l.drop 1)).length = min xs.length (xs.drop 1).length := by
      rw [List.length_zip, List.length_drop, List.length_drop, ln]
    refine ⟨_, (pss_one (ps_ret (pe_callB (cr_all rfl) (by rfl) T.n_all (by decide +kernel) (pa_cons (pe_lc (own := [("one", 1), ("other", 2)]) (g := gTup _ 2 (gCons (gName 1) (gCons (gName 2) gNil))) (tt := tYes) rfl sc_is_ascending.nd (RZ.pi_zipA rfl n_zip (pa_cons (pv 0) (pa_cons (pe_slice sl_tupA (pv 0) (po_some pe_int) po_none) pa_nil))) (blkOk_by (N := N_is_ascending) (sc := defScope s_is_ascending) (by decide +kernel)) (fun _ _ _ _ _ => (pg_tup rfl (pgs_cons (pg_name (i := 1) sc_is_ascending.nd rfl (Or.inl rfl)) (pgs_cons (pg_name (i := 2) sc_is_ascending.nd rfl (Or.inl rfl)) pgs_nil)))) (fun _ _ _ _ _ => pts_nil) (fun _ _ _ _ _ => (pe_cmpR (op_ltD (K := K) hr.units) (pv 1) (pv 2) (nomark _)))) pa_nil)))), ?_⟩
    unfold tLc RZ.iZipA tSl tNoPart tPart
    fail "z run"
    refine ⟨1, rfl, ?_⟩
    fail "z run"
    refine ⟨a, _, rfl, ha, fun wh => ?_, fun _ p np => ?_⟩
    · have hb : SqT K H a (xs.drop 1) := by
        have e : xs = [] := by
          have z : min 1 xs.length = 0 := wh.1
          exact List.length_eq_zero_iff.mp (by omega)
        rw [e] at ha ⊢
        exact ha
      fail "z run"
      refine ⟨a, a, _, _, rfl, .inr ⟨ha, hb, fun D hD => lc_zipT (fun p : Lt × Lt => V.bl (ltL p.1 p.2)) ha hb hD zl (by rw [zl]; omega) ?_ ?_⟩⟩
      · intro i x y e t H2 Q' hx hy he S ht kq
        obtain ⟨lx, ly⟩ := zipD_at g hx hy he
        refine rd_gtup ht rfl ?_
        fail "z run"
        refine ⟨rfl, ?_⟩
        fail "z run"
        exact ⟨_, _, (lx.same S).dp, (ly.same S).dp, lateD_alike _ _, nofun, by rw [lateD_depth]; decide, by rw [lateD_lt]; exact kq _ (Same.refl _)⟩
      · intro H2 S hL
        fail "z run"
        refine all_of hL ?_
        exact k _ ((Same.refl H).trans S)
    · rw [cut_one]
      have hb : SqT K (upd H p (.tup (xs.drop 1))) p (xs.drop 1) := SqT.of upd_same
      have S0 : Same H (upd H p (.tup (xs.drop 1))) := same_new np
      have ha := sqt_same ha S0
      fail "z run"
      refine ⟨a, p, _, _, rfl, .inr ⟨ha, hb, fun D hD => lc_zipT (fun p : Lt × Lt => V.bl (ltL p.1 p.2)) ha hb hD zl (by rw [zl]; omega) ?_ ?_⟩⟩
      · intro i x y e t H2 Q' hx hy he S ht kq
        obtain ⟨lx, ly⟩ := zipD_at g hx hy he
        refine rd_gtup ht rfl ?_
        fail "z run"
        refine ⟨rfl, ?_⟩
        fail "z run"
        exact ⟨_, _, ((lx.same S0).same S).dp, ((ly.same S0).same S).dp, lateD_alike _ _, nofun, by rw [lateD_depth]; decide, by rw [lateD_lt]; exact kq _ (Same.refl _)⟩
      · intro H2 S hL
        fail "z run"
        refine all_of hL ?_
        exact k _ (S0.trans S)
/-! ### marks -/
def spLates (C W : Addr) : Sp := fun vs H Q _ => ∃ (a : Addr) (v : V) (x : Wd) (ls : List Lt), vs = [.ref a, v] ∧ IsWd C W H a x ∧ PgsS x.ps ∧ IsTupOf IsLt H v ls ∧ ls.length ≤ 900 ∧ (∀ l ∈ ls, lateP x l) ∧ ascL ls = true ∧ ∀ H', Same H H' → Q (.bl true) H'
theorem ok_lates {f C W : Addr} {fd : FuncData} (F : Fun K "_are_late" "_are_late" s__are_late f fd) (T : Txt mg) (c_late : Cal P w K mg base 3 "_is_late" P__is_late (spIsLate C W)) (c_asc : Cal P w K mg base 1 "is_ascending" P_is_ascending spAscD) :
    FnOk P w K mg base CX0 4 f fd P__are_late (spLates C W) := by
  obtain ⟨f_l, fd_l, G__is_late, b__is_late, g__is_late, k__is_late⟩ := c_late
  obtain ⟨f_a, fd_a, G_is_ascending, b_is_ascending, g_is_ascending, k_is_ascending⟩ := c_asc
  refine F.ok sc__are_late (fun vs H Q E h => ?_) (fun cdv A outer s H vs Q E hr h => ?_)
  · obtain ⟨a, v, x, ls, rfl, _⟩ := h
    rfl
  · obtain ⟨a, v, x, ls, rfl, hw, hS, hl, few, ok, asc, k⟩ := h
    obtain ⟨al, xs, rfl, hal, ln, g⟩ := id hl
    refine ⟨_, (pss_cons (ps_if (PW.pt (pw_or (pt_not (pt_val (pe_callB call_isi (by rfl) T.n_isinstance (by decide +kernel) (pa_cons (pv 1) (pa_cons (pe_bltn (v := .ty "tuple") (by rfl) T.n_tuple (by decide +kernel) rfl) pa_nil))))) (pw_or1 (pt_not (pt_val (pe_callB (cr_all rfl) (by rfl) T.n_all (by decide +kernel) (pa_cons (pe_lc (own := [("late", 2)]) (g := gName 2) (tt := tYes) rfl sc__are_late.nd (pi_tup (pv 1)) (blkOk_by (N := N__are_late) (sc := defScope s__are_late) (by decide +kernel)) (fun _ _ _ _ _ => (pg_name (i := 2) sc__are_late.nd rfl (Or.inl rfl))) (fun _ _ _ _ _ => pts_nil) (fun _ _ _ _ _ => (pe_call G__is_late (hr.mono (by decide)) rfl g__is_late k__is_late b__is_late .nil pass0 (pa_cons (pv 0) (pa_cons (pv 2) pa_nil))))) pa_nil))))))) (pss_one (ps_ret pe_bl)) pss_nil)
      (pss_one (ps_ret (pe_call G_is_ascending (hr.mono (by decide)) rfl g_is_ascending k_is_ascending b_is_ascending .nil pass0 (pa_cons (pv 1) pa_nil))))), ?_⟩
    unfold tLc
    fail "z run"
    refine rd_isi (.base (.tup hal)) (b := true) (by decide +kernel) ?_
    fail "z run"
    refine iteF' ?_
    fail "z run"
    with_reducible refine rd_iT ?_
    fail "z run"
    refine rd_iTa hal fun D hD => lc_tupV (K := K) (l := ls) (fun _ => V.bl true) (SqT.of hal) hD ln (by omega) ?_ ?_
    · intro i y l H3 Q' hy hl' S kq
      fail "z run"
      refine ⟨rfl, ?_⟩
      fail "z run"
      exact ⟨a, y, x, l, rfl, hw.same S, hS, (g i y l hy hl').same S, ok l (List.mem_of_getElem? hl'), kq⟩
    intro H3 S3 hL
    fail "z run"
    refine all_of hL ?_
    rw [show (ls.all fun _ => true) = true by rw [List.all_eq_true]; intros; rfl]
    fail "z run"
    refine iteF' ?_
    fail "z run"
    refine ⟨_, ls, rfl, IsLts.same hl S3, few, fun H4 S4 => ?_⟩
    rw [asc]
    exact k _ (S3.trans S4)
def topB (x : Wd) (me : Str) (v : V) : Bool := if me = "small" then btw v x.lo x.hi else btw v (x.hi + 1) x.Hi
def spTop (C W : Addr) : Sp := fun vs H Q _ => ∃ (a : Addr) (me : Str) (v : V) (x : Wd), vs = [.ref a, .str me, v] ∧ IsWd C W H a x ∧ Plain H v ∧ Q (.bl (topB x me v)) H
theorem ok_top {f C W : Addr} {fd : FuncData} (F : Fun K "_is_top" "_is_top" s__is_top f fd) (WT : WorldT K W) (KT : KindT K C) (c_btw : Cal P w K mg base 2 "is_between" P_is_between spBtw) : FnOk P w K mg base CX0 3 f fd P__is_top (spTop C W) := by
  obtain ⟨f_b, fd_b, G_is_between, b_is_between, g_is_between, k_is_between⟩ := c_btw
  refine F.ok sc__is_top (fun vs H Q E h => ?_) (fun cdv A outer s H vs Q E hr h => ?_)
  · obtain ⟨a, me, v, x, rfl, _⟩ := h
    rfl
  · obtain ⟨a, me, v, x, rfl, ⟨dx, n, ww, c, p, ha, hP⟩, pl, k⟩ := h
    obtain ⟨dn, hn⟩ := id hP.1
    obtain ⟨dw, hw⟩ := id hP.2.1
    have k : Q (.bl (if me = "small" then btw v x.lo x.hi else btw v (x.hi + 1) x.Hi)) H := k
    refine ⟨_, (pss_cons (ps_if (pt_cmpR op_eq (pv 1) pe_str (nomark _)) (pss_one (ps_ret (pe_call G_is_between (hr.mono (by decide)) rfl g_is_between k_is_between b_is_between .nil pass0 (pa_cons (pv 2) (pa_cons (pe_fld (pe_fld (pv 0) rfl) rfl) (pa_cons (pe_fld (pe_fld (pv 0) rfl) rfl) pa_nil)))))) pss_nil)
      (pss_one (ps_ret (pe_call G_is_between (hr.mono (by decide)) rfl g_is_between k_is_between b_is_between .nil pass0 (pa_cons (pv 2) (pa_cons (pe_op op_add (pe_fld (pe_fld (pv 0) rfl) rfl) pe_int) (pa_cons (pe_fld (pe_fld (pv 0) rfl) rfl) pa_nil))))))), ?_⟩
    fail "z run"
    rw [dec_str]
    refine rd_iteB (fun c => ?_) (fun c => ?_)
    · rw [if_pos (of_decide_eq_true c)] at k
      fail "z run"
      refine ⟨_, _, _, _, _, rfl, ha, WT.cl, WT.n_narrow, wf_narrow _ _ _ _, ?_⟩
      fail "z run"
      refine ⟨_, _, _, _, _, rfl, hn, KT.cl, KT.n_low, kf_low _ _, ?_⟩
      fail "z run"
      refine ⟨_, _, _, _, _, rfl, ha, WT.cl, WT.n_narrow, wf_narrow _ _ _ _, ?_⟩
      fail "z run"
      refine ⟨_, _, _, _, _, rfl, hn, KT.cl, KT.n_high, kf_high _ _, ?_⟩
      fail "z run"
      exact ⟨v, _, _, rfl, pl, k⟩
    · rw [if_neg (of_decide_eq_false c)] at k
      fail "z run"
      refine ⟨_, _, _, _, _, rfl, ha, WT.cl, WT.n_narrow, wf_narrow _ _ _ _, ?_⟩
      fail "z run"
      refine ⟨_, _, _, _, _, rfl, hn, KT.cl, KT.n_high, kf_high _ _, ?_⟩
      fail "z run"
      refine ⟨_, _, _, _, _, rfl, ha, WT.cl, WT.n_wide, wf_wide _ _ _ _, ?_⟩
      fail "z run"
      refine ⟨_, _, _, _, _, rfl, hw, KT.cl, KT.n_high, kf_high _ _, ?_⟩
      fail "z run"
      exact ⟨v, _, _, rfl, pl, k⟩
/-! ### what is a mark -/
abbrev vMEANT : List Str := ["small", "great"]
abbrev vNARROWS : List Str := ["none", "same", "cut", "old"]
abbrev vWIDES : List Str := ["none", "same", "cut", "old", "far"]
abbrev vVISITS : List Str := ["ahead", "seen", ""]
structure Mrk where
  me : Str
  na : Str
  wi : Str
  vi : Str
  ls : List Lt
def IsMrk (H : Hp) (v : V) (m : Mrk) (tv : V) : Prop := ∃ a lv, v = .ref a ∧ H a = some (.tup [.str m.me, tv, .str m.na, .str m.wi, lv, .str m.vi]) ∧ IsTupOf IsLt H lv m.ls
theorem IsMrk.same {v tv : V} {m : Mrk} {H H' : Hp} (h : IsMrk H v m tv) (s : Same H H') : IsMrk H' v m tv := by
  obtain ⟨a, lv, e, h1, h2⟩ := h
  exact ⟨a, lv, e, s _ _ h1, IsLts.same h2 s⟩
def MrkP (x : Wd) (m : Mrk) : Prop := strIn m.me vMEANT = true ∧ strIn m.na vNARROWS = true ∧ strIn m.wi vWIDES = true ∧ strIn m.vi vVISITS = true ∧ m.ls.length ≤ 900 ∧ (∀ l ∈ m.ls, lateP x l) ∧ ascL m.ls = true
def fineB (m : Mrk) : Bool := if m.me = "great" then !decide (m.na = "same") else (!strIn "cut" [m.na, m.wi]) && (!strIn "cut" (m.ls.map (·.2.2)))
def markB (x : Wd) (m : Mrk) (tv : V) : Bool := topB x m.me tv && fineB m
theorem rd_ninL {K : PySem.W.Frag} {H : Hp} {Q : VK} {a : Addr} {x : Str} {xs : List Str} (h : SqL K H a (xs.map V.str)) (k : Q (.bl (!strIn x xs)) H) : rIn K true (.str x) (.ref a) H Q := ⟨a, _, rfl, .inl h, rfl, flat_strs xs, k⟩
def spMark (C W : Addr) : Sp := fun vs H Q _ => ∃ (a : Addr) (v : V) (x : Wd), vs = [.ref a, v] ∧ IsWd C W H a x ∧ PgsS x.ps ∧
  ((Plain H v ∧ (∀ b, tupB H v 6 6 b → b = false) ∧ ∀ H', Same H H' → Q (.bl false) H') ∨
   (∃ (m : Mrk) (tv : V), IsMrk H v m tv ∧ Plain H tv ∧ MrkP x m ∧ ∀ H', Same H H' → Q (.bl (markB x m tv)) H'))
theorem ok_mark {f C W a_MEANT a_NARROW_WORDS a_WIDE_WORDS a_VISITS : Addr} {fd : FuncData} (F : Fun K "is_mark" "is_mark" s_is_mark f fd) (T : Txt mg) (G1 : GlobT K mg "MEANT" a_MEANT vMEANT) (G2 : GlobT K mg "NARROW_WORDS" a_NARROW_WORDS vNARROWS)
    (G3 : GlobT K mg "WIDE_WORDS" a_WIDE_WORDS vWIDES) (G4 : GlobT K mg "VISITS" a_VISITS vVISITS) (c_tup : Cal P w K mg base 1 "is_tuple_of" P_is_tuple_of spTupOf) (c_top : Cal P w K mg base 3 "_is_top" P__is_top (spTop C W))
    (c_lates : Cal P w K mg base 4 "_are_late" P__are_late (spLates C W)) : FnOk P w K mg base CX0 5 f fd P_is_mark (spMark C W) := by
  obtain ⟨f_t, fd_t, G_is_tuple_of, b_is_tuple_of, g_is_tuple_of, k_is_tuple_of⟩ := c_tup
  obtain ⟨f_o, fd_o, G__is_top, b__is_top, g__is_top, k__is_top⟩ := c_top
  obtain ⟨f_l, fd_l, G__are_late, b__are_late, g__are_late, k__are_late⟩ := c_lates
  have g_MEANT := G1.g
  have g_NARROW_WORDS := G2.g
  have g_WIDE_WORDS := G3.g
  have g_VISITS := G4.g
  refine F.ok sc_is_mark (fun vs H Q E h => ?_) (fun cdv A outer s H vs Q E hr h => ?_)
  · obtain ⟨a, v, x, rfl, _⟩ := h
    rfl
  · obtain ⟨a, v, x, rfl, hw, hS, h⟩ := h
    refine ⟨_, (pss_cons (ps_if (pt_not (pt_val (pe_call G_is_tuple_of (hr.mono (by decide)) rfl g_is_tuple_of k_is_tuple_of b_is_tuple_of .nil pass0 (pa_cons (pv 1) (pa_cons pe_int (pa_cons pe_int pa_nil)))))) (pss_one (ps_ret pe_bl)) pss_nil)
      (pss_cons (ps_asg (pv 1) (pg_tup rfl (pgs_cons (pg_name (i := 2) sc_is_mark.nd rfl (Or.inl rfl)) (pgs_cons (pg_name (i := 3) sc_is_mark.nd rfl (Or.inl rfl)) (pgs_cons (pg_name (i := 4) sc_is_mark.nd rfl (Or.inl rfl)) (pgs_cons (pg_name (i := 5) sc_is_mark.nd rfl (Or.inl rfl)) (pgs_cons (pg_name (i := 6) sc_is_mark.nd rfl (Or.inl rfl)) (pgs_cons (pg_name (i := 7) sc_is_mark.nd rfl (Or.inl rfl)) pgs_nil))))))))
      (pss_cons (ps_if (PW.pt (pw_or (pt_cmpR op_notIn_seq (pv 2) (pe_glob (v := .ref a_MEANT) rfl g_MEANT rfl) rfl) (pw_or (pt_cmpR op_notIn_seq (pv 4) (pe_glob (v := .ref a_NARROW_WORDS) rfl g_NARROW_WORDS rfl) rfl) (pw_or (pt_cmpR op_notIn_seq (pv 5) (pe_glob (v := .ref a_WIDE_WORDS) rfl g_WIDE_WORDS rfl) rfl) (pw_or1 (pt_cmpR op_notIn_seq (pv 7) (pe_glob (v := .ref a_VISITS) rfl g_VISITS rfl) rfl)))))) (pss_one (ps_ret pe_bl)) pss_nil)
      (pss_cons (ps_if (PW.pt (pw_or (pt_not (pt_val (pe_call G__is_top (hr.mono (by decide)) rfl g__is_top k__is_top b__is_top .nil pass0 (pa_cons (pv 0) (pa_cons (pv 2) (pa_cons (pv 3) pa_nil)))))) (pw_or1 (pt_not (pt_val (pe_call G__are_late (hr.mono (by decide)) rfl g__are_late k__are_late b__are_late .nil pass0 (pa_cons (pv 0) (pa_cons (pv 6) pa_nil)))))))) (pss_one (ps_ret pe_bl)) pss_nil)
      (pss_cons (ps_if (pt_cmpR op_eq (pv 2) pe_str (nomark _)) (pss_one (ps_ret (pe_cmpR op_ne (pv 4) pe_str (nomark _)))) pss_nil)
      (pss_one (ps_ret (pe_and (pe_cmpR op_notIn_seq pe_str (pe_tup (pa_cons (pv 4) (pa_cons (pv 5) pa_nil))) rfl) (pe_one (pe_cmpR op_notIn_seq pe_str (pe_lc (own := [("_", 8), ("_", 8), ("word", 9)]) (g := gTup _ 3 (gCons (gName 8) (gCons (gName 8) (gCons (gName 9) gNil)))) (tt := tYes) rfl sc_is_mark.nd (pi_tup (pv 6)) (blkOk_by (N := N_is_mark) (sc := defScope s_is_mark) (by decide +kernel)) (fun _ _ _ _ _ => (pg_tup rfl (pgs_cons (pg_name (i := 8) sc_is_mark.nd rfl (Or.inl rfl)) (pgs_cons (pg_name (i := 8) sc_is_mark.nd rfl (Or.inl rfl)) (pgs_cons (pg_name (i := 9) sc_is_mark.nd rfl (Or.inl rfl)) pgs_nil))))) (fun _ _ _ _ _ => pts_nil) (fun _ _ _ _ _ => (pv 9))) rfl)))))))))), ?_⟩
    unfold tLc
    rcases h with ⟨pl, no, k⟩ | ⟨m, tv, hm, pt, ⟨w1, w2, w3, w4, w5, w6, w7⟩, k⟩
    · fail "z run"
      refine ⟨v, 6, 6, rfl, pl, fun b hb => ?_⟩
      rw [no b hb]
      fail "z run"
      exact k _ (Same.refl _)
    · obtain ⟨t, lv, rfl, ht, hl⟩ := id hm
      fail "z run"
      refine ⟨_, 6, 6, rfl, .tup ht, fun b hb => ?_⟩
      obtain rfl := tupB_yes ht hb
      fail "z run"
      refine iteF ?_
      fail "z run"
      refine rd_gtup ht rfl ?_
      fail "z run"
      refine rd_ninT (G1.t H) ?_
      rw [w1]
      fail "z run"
      refine iteF' ?_
      fail "z run"
      refine rd_ninT (G2.t H) ?_
      rw [w2]
      fail "z run"
      refine iteF' ?_
      fail "z run"
      refine rd_ninT (G3.t H) ?_
      rw [w3]
      fail "z run"
      refine iteF' ?_
      fail "z run"
      refine rd_ninT (G4.t H) ?_
      rw [w4]
      fail "z run"
      refine iteF' ?_
      fail "z run"
      refine ⟨a, m.me, tv, x, rfl, hw, pt, ?_⟩
      fail "z run"
      have k : ∀ H', Same H H' → Q (.bl (topB x m.me tv && fineB m)) H' := k
      refine rd_iteB (fun c => ?_) (fun c => ?_)
      · fail "z run"
        have z := k _ (Same.refl H)
        rw [nb c] at z
        exact z
      rw [nb' c, Bool.true_and] at k
      fail "z run"
      refine ⟨a, lv, x, m.ls, rfl, hw, hS, hl, w5, w6, w7, fun H1 S1 => ?_⟩
      fail "z run"
      refine iteF' ?_
      fail "z run"
      rw [dec_str]
      unfold fineB at k
      refine rd_iteB (fun c2 => ?_) (fun c2 => ?_)
      · rw [if_pos (of_decide_eq_true c2)] at k
        fail "z run"
        rw [dec_str]
        exact k _ S1
      rw [if_neg (of_decide_eq_false c2)] at k
      fail "z run"
      intro tt htt
      refine rd_ninT (xs := [m.na, m.wi]) (SqT.of upd_same) ?_
      have S2 := S1.trans (same_new (o := .tup [V.str m.na, V.str m.wi]) htt)
      fail "z run"
      refine rd_iteB (fun c3 => ?_) (fun c3 => ?_)
      · rw [c3, Bool.true_and] at k
        obtain ⟨al, xs, rfl, hal, ln, g⟩ := IsLts.same hl S2
        fail "z run"
        with_reducible refine rd_iT ?_
        fail "z run"
        refine rd_iTa hal fun D hD => lc_tupV (K := K) (l := m.ls) (fun l => V.str l.2.2) (SqT.of hal) hD ln (by omega) ?_ ?_
        · intro i y l H3 Q' hy hl' S kq
          obtain ⟨t3, rfl, ht3⟩ := (g i y l hy hl').same S
          fail "z run"
          refine rd_gtup ht3 rfl ?_
          fail "z run"
          refine ⟨rfl, ?_⟩
          fail "z run"
          exact kq _ (Same.refl _)
        intro H3 S3 hL
        refine rd_ninL (xs := m.ls.map (·.2.2)) (SqL.of (by rw [List.map_map]; exact hL)) ?_
        exact k _ (S2.trans S3)
      · rw [c3, Bool.false_and] at k
        exact k _ S2
/-! ### marks within marks -/
def MrkOk (m : Mrk) : Prop := PyData.strOk m.me = true ∧ PyData.strOk m.na = true ∧ PyData.strOk m.wi = true ∧ PyData.strOk m.vi = true ∧ ∀ l ∈ m.ls, LtOk l
def kinT (m : Mrk) : PySem.W.T4 Str Str Str Str := ⟨m.me, m.na, m.wi, m.vi⟩
def kinD (m : Mrk) : PyData := .tuple [.str m.me, .str m.na, .str m.wi, .str m.vi]
theorem kinD_eqv (p q : Mrk) : PyData.eqv (kinD p) (kinD q) = decide (kinT p = kinT q) := PySem.W.Datum.eqv (kinT p) (kinT q)
theorem kinD_shaped {m : Mrk} (ok : MrkOk m) : SeqAt.shaped (kinD m) = true := by
  show ((kinD m).canLay0 && decide ((kinD m).depth ≤ 64)) = true
  have h1 : (kinD m).canLay0 = true := by simp [kinD, PyData.canLay0, PyData.canLayAll0, ok.1, ok.2.1, ok.2.2.1, ok.2.2.2.1]
  have h2 : (kinD m).depth = 1 := by simp [kinD, PyData.depth, PyData.depthAll]
  rw [h1, h2]
  rfl
def spKin : Sp := fun vs H Q _ => ∃ (v : V) (m : Mrk) (tv : V), vs = [v] ∧ IsMrk H v m tv ∧ ∀ t H', Same H H' → H' t = some (.tup [.str m.me, .str m.na, .str m.wi, .str m.vi]) → Q (.ref t) H'
theorem ok_kin {f : Addr} {fd : FuncData} (F : Fun K "kin_of" "kin_of" s_kin_of f fd) : FnOk P w K mg base CX0 1 f fd P_kin_of spKin := by
  refine F.ok sc_kin_of (fun vs H Q E h => ?_) (fun cdv A outer s H vs Q E hr h => ?_)
  · obtain ⟨v, m, tv, rfl, _⟩ := h
    rfl
  · obtain ⟨v, m, tv, rfl, ⟨a, lv, rfl, ha, hl⟩, k⟩ := h
    refine ⟨_, (pss_one (ps_ret (pe_tup (pa_cons (pe_ix ix_tup (pv 0) pe_int (fun _ _ => rfl)) (pa_cons (pe_ix ix_tup (pv 0) pe_int (fun _ _ => rfl)) (pa_cons (pe_ix ix_tup (pv 0) pe_int (fun _ _ => rfl)) (pa_cons (pe_ix ix_tup (pv 0) pe_int (fun _ _ => rfl)) pa_nil))))))), ?_⟩
    fail "z run"
    refine rd_ixT ha (atI_nat (j := 2) rfl) ?_
    fail "z run"
    refine rd_ixT ha (atI_nat (j := 3) rfl) ?_
    fail "z run"
    refine rd_ixT ha (atI_nat (j := 5) rfl) ?_
    fail "z run"
    intro p hp
    exact k p _ (same_new hp) upd_same
def lessB (m : Mrk) (t : Int) (m2 : Mrk) (t2 : Int) : Bool := decide (t ≤ t2) && (decide (kinT m = kinT m2) && m.ls.all fun l => decide (l ∈ m2.ls))
def spLess : Sp := fun vs H Q _ => ∃ (v v2 : V) (m m2 : Mrk) (t t2 : Int), vs = [v, v2] ∧ IsMrk H v m (.int t) ∧ IsMrk H v2 m2 (.int t2) ∧ MrkOk m ∧ MrkOk m2 ∧ m.ls.length ≤ 900 ∧ ∀ H', Same H H' → Q (.bl (lessB m t m2 t2)) H'
theorem ok_less {f : Addr} {fd : FuncData} (F : Fun K "is_less" "is_less" s_is_less f fd) (T : Txt mg) (c_kin : Cal P w K mg base 1 "kin_of" P_kin_of spKin) : FnOk P w K mg base CX0 2 f fd P_is_less spLess := by
  obtain ⟨f_k, fd_k, G_kin_of, b_kin_of, g_kin_of, k_kin_of⟩ := c_kin
  refine F.ok sc_is_less (fun vs H Q E h => ?_) (fun cdv A outer s H vs Q E hr h => ?_)
  · obtain ⟨v, v2, m, m2, t, t2, rfl, _⟩ := h
    rfl
  · obtain ⟨v, v2, m, m2, t, t2, rfl, h1, h2, ok1, ok2, few, k⟩ := h
    obtain ⟨a, lv, rfl, ha, hl⟩ := id h1
    obtain ⟨a2, lv2, rfl, ha2, hl2⟩ := id h2
    have k : ∀ H', Same H H' → Q (.bl (decide (t ≤ t2) && (decide (kinT m = kinT m2) && m.ls.all fun l => decide (l ∈ m2.ls)))) H' := k
    refine ⟨_, (pss_cons (ps_if (PW.pt (pw_or (pt_cmpR op_gt (pe_ix ix_tup (pv 0) pe_int (fun _ _ => rfl)) (pe_ix ix_tup (pv 1) pe_int (fun _ _ => rfl)) (nomark _)) (pw_or1 (pt_cmpR (op_neD hr.units) (pe_call G_kin_of (hr.mono (by decide)) rfl g_kin_of k_kin_of b_kin_of .nil pass0 (pa_cons (pv 0) pa_nil)) (pe_call G_kin_of (hr.mono (by decide)) rfl g_kin_of k_kin_of b_kin_of .nil pass0 (pa_cons (pv 1) pa_nil)) (nomark _))))) (pss_one (ps_ret pe_bl)) pss_nil)
      (pss_one (ps_ret (pe_callB (cr_all rfl) (by rfl) T.n_all (by decide +kernel) (pa_cons (pe_lc (own := [("late", 2)]) (g := gName 2) (tt := tYes) rfl sc_is_less.nd (pi_tup (pe_ix (ix_tupK (K := K)) (pv 0) pe_int (fun _ _ => rfl))) (blkOk_by (N := N_is_less) (sc := defScope s_is_less) (by decide +kernel)) (fun _ _ _ _ _ => (pg_name (i := 2) sc_is_less.nd rfl (Or.inl rfl))) (fun _ _ _ _ _ => pts_nil) (fun _ _ _ _ _ => (pe_cmpR (op_inDD (K := K) (hu70 hr)) (pv 2) (pe_ix (ix_tupK (K := K)) (pv 1) pe_int (fun _ _ => rfl)) rfl))) pa_nil))))), ?_⟩
    unfold tLc
    fail "z run"
    refine rd_iteB (fun c => ?_) (fun c => ?_)
    · fail "z run"
      have z := k _ (Same.refl H)
      rw [decide_eq_false (by have := of_decide_eq_true c; omega), Bool.false_and] at z
      exact z
    rw [decide_eq_true (by have := of_decide_eq_false c; omega), Bool.true_and] at k
    fail "z run"
    refine ⟨_, m, _, rfl, h1, fun p H1 S1 hp => ?_⟩
    fail "z run"
    refine ⟨_, m2, _, rfl, h2.same S1, fun q H2 S2 hq => ?_⟩
    fail "z run"
    have dp : Dp K H2 (.ref p) (kinD m) := .tup (SqT.of (S2 _ _ hp)) (.cons (.str _) (.cons (.str _) (.cons (.str _) (.cons (.str _) .nil))))
    have dq : Dp K H2 (.ref q) (kinD m2) := .tup (SqT.of hq) (.cons (.str _) (.cons (.str _) (.cons (.str _) (.cons (.str _) .nil))))
    refine ⟨_, _, dp, dq, kinD_shaped ok1, kinD_shaped ok2, ?_⟩
    rw [kinD_eqv]
    fail "z run"
    have S2 := S1.trans S2
    refine rd_iteB (fun c => ?_) (fun c => ?_)
    · fail "z run"
      have z := k _ S2
      rw [nb c, Bool.false_and] at z
      exact z
    rw [nb' c, Bool.true_and] at k
    have ha := S2 _ _ ha
    have ha2 := S2 _ _ ha2
    have hl := IsLts.same hl S2
    have hl2 := IsLts.same hl2 S2
    obtain ⟨al, xs, rfl, hal, ln, g⟩ := id hl
    fail "z run"
    with_reducible refine rd_iT ?_
    fail "z run"
    refine rd_ixT ha (atI_nat (j := 4) rfl) ?_
    fail "z run"
    refine rd_iTa hal fun D hD => lc_tupV (K := K) (l := m.ls) (fun l => V.bl (decide (l ∈ m2.ls))) (SqT.of hal) hD ln (by omega) ?_ ?_
    · intro i y l H3 Q' hy hl' S kq
      fail "z run"
      refine ⟨rfl, ?_⟩
      fail "z run"
      refine rd_ixT (S _ _ ha2) (atI_nat (j := 4) rfl) ?_
      refine ⟨_, _, ((g i y l hy hl').same S).dp, IsLts.dp (IsLts.same hl2 S), lateD_shaped (ok1.2.2.2.2 l (List.mem_of_getElem? hl')), lateDs_shaped ok2.2.2.2.2, ?_⟩
      rw [lateDs_any]
      exact kq _ (Same.refl _)
    intro H3 S3 hL
    fail "z run"
    refine all_of hL ?_
    exact k _ (S2.trans S3)
inductive NoMk (H : Hp) : V → Prop
  | non : NoMk H .non
  | int (i : Int) : NoMk H (.int i)
  | str (x : Str) : NoMk H (.str x)
  | lst {a : Addr} {xs : List V} (e : H a = some (.lst xs)) : NoMk H (.ref a)
  | tup {a : Addr} {xs : List V} (e : H a = some (.tup xs)) (n : xs.length ≠ 6) : NoMk H (.ref a)
theorem NoMk.plain {H : Hp} {v : V} (h : NoMk H v) : Plain H v := by
  cases h with
  | non => exact .non
  | int i => exact .int i
  | str x => exact .str x
  | lst e => exact .lst e
  | tup e _ => exact .tup e
theorem NoMk.same {H H' : Hp} {v : V} (h : NoMk H v) (s : Same H H') : NoMk H' v := by
  cases h with
  | non => exact .non
  | int i => exact .int i
  | str x => exact .str x
  | lst e => exact .lst (s _ _ e)
  | tup e n => exact .tup (s _ _ e) n
theorem NoMk.no {H : Hp} {v : V} (h : NoMk H v) (b : Bool) (hb : tupB H v 6 6 b) : b = false := by
  rcases hb with ⟨a', zs, e, h', e2⟩ | ⟨_, e⟩
  · cases h with
    | non => cases e
    | int i => cases e
    | str x => cases e
    | lst q =>
      cases e
      rw [q] at h'
      cases h'
    | tup q n =>
      cases e
      rw [q] at h'
      cases h'
      rw [e2, Bool.and_eq_false_iff, decide_eq_false_iff_not, decide_eq_false_iff_not]
      omega
  · exact e
def MkV (x : Wd) (H : Hp) (v : V) : Option (Mrk × Int) → Prop
  | none => NoMk H v ∨ ∃ m, IsMrk H v m .non ∧ MrkP x m
  | some r => IsMrk H v r.1 (.int r.2) ∧ MrkP x r.1 ∧ MrkOk r.1 ∧ markB x r.1 (.int r.2) = true
theorem MkV.same {x : Wd} {H H' : Hp} {v : V} {r : Option (Mrk × Int)} (h : MkV x H v r) (s : Same H H') : MkV x H' v r := by
  cases r with
  | none => exact h.imp (fun q => q.same s) fun ⟨m, q, p⟩ => ⟨m, q.same s, p⟩
  | some r => exact ⟨h.1.same s, h.2⟩
theorem markB_non {x : Wd} {m : Mrk} : markB x m .non = false := by
  unfold markB topB
  by_cases q : m.me = "small"
  · rw [if_pos q]
    rfl
  · rw [if_neg q]
    rfl
def withinB : Option (Mrk × Int) → Option (Mrk × Int) → Bool
  | some p, some q => lessB p.1 p.2 q.1 q.2
  | _, _ => false
/-- is_mark of any of the law's values -/
theorem rd_mark {C W : Addr} {H : Hp} {Q : VK} {E : XK} {a : Addr} {v : V} {x : Wd} {r : Option (Mrk × Int)} (hw : IsWd C W H a x) (hS : PgsS x.ps) (h : MkV x H v r) (k : ∀ H', Same H H' → Q (.bl r.isSome) H') : spMark C W [.ref a, v] H Q E := by
  refine ⟨a, v, x, rfl, hw, hS, ?_⟩
  cases r with
  | none =>
    rcases h with h | ⟨m, h, p⟩
    · exact .inl ⟨h.plain, h.no, k⟩
    · refine .inr ⟨m, .non, h, .non, p, fun H' S => ?_⟩
      rw [markB_non]
      exact k H' S
  | some r =>
    refine .inr ⟨r.1, .int r.2, h.1, .int _, h.2.1, fun H' S => ?_⟩
    rw [h.2.2.2]
    exact k H' S
def spWithin (C W : Addr) : Sp := fun vs H Q _ => ∃ (a : Addr) (v v2 : V) (x : Wd) (r r2 : Option (Mrk × Int)), vs = [.ref a, v, v2] ∧ IsWd C W H a x ∧ PgsS x.ps ∧ MkV x H v r ∧ MkV x H v2 r2 ∧ ∀ H', Same H H' → Q (.bl (withinB r r2)) H'
theorem ok_within {f C W : Addr} {fd : FuncData} (F : Fun K "within" "within" s_within f fd) (c_mark : Cal P w K mg base 5 "is_mark" P_is_mark (spMark C W)) (c_less : Cal P w K mg base 2 "is_less" P_is_less spLess) : FnOk P w K mg base CX0 6 f fd P_within (spWithin C W) := by
  obtain ⟨f_m, fd_m, G_is_mark, b_is_mark, g_is_mark, k_is_mark⟩ := c_mark
  obtain ⟨f_l, fd_l, G_is_less, b_is_less, g_is_less, k_is_less⟩ := c_less
  refine F.ok sc_within (fun vs H Q E h => ?_) (fun cdv A outer s H vs Q E hr h => ?_)
  · obtain ⟨a, v, v2, x, r, r2, rfl, _⟩ := h
    rfl
  · obtain ⟨a, v, v2, x, r, r2, rfl, hw, hS, h1, h2, k⟩ := h
    refine ⟨_, (pss_one (ps_ret (pe_and (pe_call G_is_mark (hr.mono (by decide)) rfl g_is_mark k_is_mark b_is_mark .nil pass0 (pa_cons (pv 0) (pa_cons (pv 1) pa_nil))) (pe_and (pe_call G_is_mark (hr.mono (by decide)) rfl g_is_mark k_is_mark b_is_mark .nil pass0 (pa_cons (pv 0) (pa_cons (pv 2) pa_nil))) (pe_one (pe_call G_is_less (hr.mono (by decide)) rfl g_is_less k_is_less b_is_less .nil pass0 (pa_cons (pv 1) (pa_cons (pv 2) pa_nil)))))))), ?_⟩
    fail "z run"
    refine rd_mark hw hS h1 fun H1 S1 => ?_
    cases r with
    | none =>
      fail "z run"
      exact k _ S1
    | some r =>
      fail "z run"
      refine iteT' ?_
      fail "z run"
      refine rd_mark (hw.same S1) hS (h2.same S1) fun H2 S2 => ?_
      have S2' := S1.trans S2
      cases r2 with
      | none =>
        fail "z run"
        exact k _ S2'
      | some r2 =>
        fail "z run"
        refine iteT' ?_
        fail "z run"
        exact ⟨v, v2, r.1, r2.1, r.2, r2.2, rfl, h1.1.same S2', h2.1.same S2', h1.2.2.1, h2.2.2.1, h1.2.1.2.2.2.2.1, fun H3 S3 => k _ (S2'.trans S3)⟩
theorem cpl_inj {a b : Str} (h : cpl a = cpl b) : a = b := by
  cases a; cases b
  simp only [cpl] at h
  congr
  exact Array.toList_inj.mp h
theorem nl_irrefl (a : List Nat) : ¬ a < a := List.lt_irrefl a
theorem nl_trans {a b c : List Nat} (h : a < b) (g : b < c) : a < c := List.lt_trans h g
theorem nl_tri (a b : List Nat) : a < b ∨ a = b ∨ b < a := by
  rcases Classical.em (a < b) with h | h
  · exact .inl h
  · rcases Classical.em (b < a) with g | g
    · exact .inr (.inr g)
    · exact .inr (.inl (List.le_antisymm (List.not_lt.mp g) (List.not_lt.mp h)))
abbrev LL (p q : Lt) : Prop := ltL p q = true
theorem ll_iff (p q : Lt) : LL p q ↔ (cpl p.1 < cpl q.1 ∨ (p.1 = q.1 ∧ (p.2.1 < q.2.1 ∨ (p.2.1 = q.2.1 ∧ cpl p.2.2 < cpl q.2.2)))) := by
  unfold LL ltL
  by_cases h : p.1 = q.1
  · rw [if_pos h, h]
    by_cases g : p.2.1 = q.2.1
    · rw [if_pos g, g, decide_eq_true_eq]
      refine ⟨fun z => .inr ⟨rfl, .inr ⟨rfl, z⟩⟩, fun z => ?_⟩
      rcases z with z | ⟨_, z | ⟨_, z⟩⟩
      · exact absurd z (nl_irrefl _)
      · exact absurd z (Int.lt_irrefl _)
      · exact z
    · rw [if_neg g, decide_eq_true_eq]
      refine ⟨fun z => .inr ⟨rfl, .inl z⟩, fun z => ?_⟩
      rcases z with z | ⟨_, z | ⟨z, _⟩⟩
      · exact absurd z (nl_irrefl _)
      · exact z
      · exact absurd z g
  · rw [if_neg h, decide_eq_true_eq]
    simp [h]
theorem ll_irrefl (p : Lt) : ¬ LL p p := by
  rw [ll_iff]
  simp [nl_irrefl]
theorem ll_trans {p q r : Lt} (h : LL p q) (g : LL q r) : LL p r := by
  rw [ll_iff] at *
  rcases h with h | ⟨e, h⟩
  · rcases g with g | ⟨e2, g⟩
    · exact .inl (nl_trans h g)
    · exact .inl (e2 ▸ h)
  · rcases g with g | ⟨e2, g⟩
    · exact .inl (e ▸ g)
    · refine .inr ⟨e.trans e2, ?_⟩
      rcases h with h | ⟨e3, h⟩
      · rcases g with g | ⟨e4, g⟩
        · exact .inl (by omega)
        · exact .inl (by omega)
      · rcases g with g | ⟨e4, g⟩
        · exact .inl (by omega)
        · exact .inr ⟨e3.trans e4, nl_trans h g⟩
theorem ll_tri (p q : Lt) : LL p q ∨ p = q ∨ LL q p := by
  obtain ⟨a, b, c⟩ := p
  obtain ⟨a', b', c'⟩ := q
  rw [ll_iff, ll_iff]
  rcases nl_tri (cpl a) (cpl a') with h | h | h
  · exact .inl (.inl h)
  · have e := cpl_inj h
    subst e
    rcases Int.lt_trichotomy b b' with h2 | h2 | h2
    · exact .inl (.inr ⟨rfl, .inl h2⟩)
    · subst h2
      rcases nl_tri (cpl c) (cpl c') with h3 | h3 | h3
      · exact .inl (.inr ⟨rfl, .inr ⟨rfl, h3⟩⟩)
      · have e := cpl_inj h3
        subst e
        exact .inr (.inl rfl)
      · exact .inr (.inr (.inr ⟨rfl, .inr ⟨rfl, h3⟩⟩))
    · exact .inr (.inr (.inr ⟨rfl, .inl h2⟩))
  · exact .inr (.inr (.inl h))
theorem ll_cut (l : Lt) : ∀ {ls : List Lt}, ls.Pairwise LL → (∀ q ∈ ls.take (ls.filter fun q => ltL q l).length, LL q l) ∧ (∀ q ∈ ls.drop (ls.filter fun q => ltL q l).length, ¬ LL q l)
  | [], _ => ⟨by simp, by simp⟩
  | a :: r, h => by
    obtain ⟨h1, h2⟩ := List.pairwise_cons.mp h
    by_cases c : ltL a l = true
    · obtain ⟨g1, g2⟩ := ll_cut l h2
      rw [List.filter_cons_of_pos (by exact c), List.length_cons, List.take_succ_cons, List.drop_succ_cons]
      refine ⟨fun q m => ?_, g2⟩
      rcases List.mem_cons.mp m with rfl | m
      · exact c
      · exact g1 q m
    · have e : (r.filter fun q => ltL q l) = [] := by
        rw [List.filter_eq_nil_iff]
        intro b m d
        exact c (ll_trans (h1 b m) d)
      rw [List.filter_cons_of_neg (by exact c), e]
      refine ⟨by simp, fun q m => ?_⟩
      rcases List.mem_cons.mp m with rfl | m
      · exact c
      · intro d
        exact c (ll_trans (h1 q m) d)
def insL (ls : List Lt) (l : Lt) : List Lt := if l ∈ ls then ls else (ls.take (ls.filter fun q => ltL q l).length ++ [l]) ++ ls.drop (ls.filter fun q => ltL q l).length
theorem insL_sorted {ls : List Lt} {l : Lt} (h : ls.Pairwise LL) : (insL ls l).Pairwise LL := by
  unfold insL
  split
  · exact h
  · rename_i nm
    obtain ⟨g1, g2⟩ := ll_cut l h
    have tk := List.take_append_drop (ls.filter fun q => ltL q l).length ls
    rw [← tk] at h
    obtain ⟨p1, p2, p3⟩ := List.pairwise_append.mp h
    have up : ∀ q ∈ ls.drop (ls.filter fun q => ltL q l).length, LL l q := fun q m => by
      rcases ll_tri q l with e | e | e
      · exact absurd e (g2 q m)
      · subst e
        exact absurd (List.mem_of_mem_drop m) nm
      · exact e
    refine List.pairwise_append.mpr ⟨List.pairwise_append.mpr ⟨p1, by simp, fun q m b mb => ?_⟩, p2, fun q m b mb => ?_⟩
    · rw [List.mem_singleton.mp mb]
      exact g1 q m
    · rcases List.mem_append.mp m with m | m
      · exact p3 q m b mb
      · rw [List.mem_singleton.mp m]
        exact up b mb
theorem insL_mem {ls : List Lt} {l q : Lt} (h : q ∈ insL ls l) : q ∈ ls ∨ q = l := by
  unfold insL at h
  split at h
  · exact .inl h
  · rcases List.mem_append.mp h with h | h
    · rcases List.mem_append.mp h with h | h
      · exact .inl (List.mem_of_mem_take h)
      · exact .inr (List.mem_singleton.mp h)
    · exact .inl (List.mem_of_mem_drop h)
theorem insL_len {ls : List Lt} {l : Lt} : (insL ls l).length ≤ ls.length + 1 := by
  unfold insL
  split
  · omega
  · simp only [List.length_append, List.length_take, List.length_drop, List.length_singleton]
    omega
theorem ascL_of : ∀ {ls : List Lt}, ls.Pairwise LL → ascL ls = true
  | [], _ => rfl
  | [_], _ => rfl
  | a :: b :: r, h => by
    obtain ⟨h1, h2⟩ := List.pairwise_cons.mp h
    have ih := ascL_of h2
    show (ltL a b && ascL (b :: r)) = true
    rw [ih, show ltL a b = true from h1 b List.mem_cons_self]
    rfl
/-! ### the law: late ones in their order -/
abbrev s__law_in_order : Stmt := (top 64)
abbrev N__law_in_order : List Str := ["_law_things", "_law_found", "_law_thing", "_law_at", "_law_one"]
abbrev P__law_in_order : List Str := ["_law_things"]
theorem sc__law_in_order : FnScope N__law_in_order P__law_in_order (defScope s__law_in_order) := ⟨rfl, rfl, rfl, by decide +kernel, rfl, by decide +kernel, by decide +kernel⟩
abbrev s__law_made : Stmt := (top 68)
abbrev N__law_made : List Str := ["_law_world", "_law_narrow", "_law_wide"]
abbrev P__law_made : List Str := ["_law_world"]
theorem sc__law_made : FnScope N__law_made P__law_made (defScope s__law_made) := ⟨rfl, rfl, rfl, by decide +kernel, rfl, by decide +kernel, by decide +kernel⟩
abbrev s__law_late_world : Stmt := (top 69)
abbrev N__law_late_world : List Str := ["_law_pot", "_law_narrow", "_law_wide", "_law_elder", "_law_some", "_law_programs", "_law_how"]
abbrev P__law_late_world : List Str := ["_law_pot"]
theorem sc__law_late_world : FnScope N__law_late_world P__law_late_world (defScope s__law_late_world) := ⟨rfl, rfl, rfl, by decide +kernel, rfl, by decide +kernel, by decide +kernel⟩
abbrev s__law_any_mark : Stmt := (top 70)
abbrev N__law_any_mark : List Str := ["_law_pot", "_law_world", "_law_lates", "_law_meant", "_law_low", "_law_high", "_law_most", "_law_top", "_law_words", "_law_kept", "_law_one", "_law_narrow", "_law_wide", "_law_visit", "_law_word"]
abbrev P__law_any_mark : List Str := ["_law_pot", "_law_world", "_law_lates"]
theorem sc__law_any_mark : FnScope N__law_any_mark P__law_any_mark (defScope s__law_any_mark) := ⟨rfl, rfl, rfl, by decide +kernel, rfl, by decide +kernel, by decide +kernel⟩
abbrev s__law_own_within : Stmt := (top 71)
abbrev N__law_own_within : List Str := ["_law_one", "_law_other", "_law_words", "_law_thing"]
abbrev P__law_own_within : List Str := ["_law_one", "_law_other"]
theorem sc__law_own_within : FnScope N__law_own_within P__law_own_within (defScope s__law_own_within) := ⟨rfl, rfl, rfl, by decide +kernel, rfl, by decide +kernel, by decide +kernel⟩
abbrev s__law_near : Stmt := (top 72)
abbrev N__law_near : List Str := ["_law_pot", "_law_world", "_law_lates", "_law_mark", "_law_spot", "_law_other", "_law_low", "_law_high", "_law_top", "_law_at"]
abbrev P__law_near : List Str := ["_law_pot", "_law_world", "_law_lates", "_law_mark"]
theorem sc__law_near : FnScope N__law_near P__law_near (defScope s__law_near) := ⟨rfl, rfl, rfl, by decide +kernel, rfl, by decide +kernel, by decide +kernel⟩
abbrev s_law : Stmt := (top 73)
abbrev N_law : List Str := ["_law_script", "_law_k", "_law_pot", "_law_world", "_law_lates", "_law_made_here", "_law_turn", "_law_one", "_law_other", "_law_third", "_law_first", "_law_second", "_law_odd"]
abbrev P_law : List Str := ["_law_script"]
theorem sc_law : FnScope N_law P_law (defScope s_law) := ⟨rfl, rfl, rfl, by decide +kernel, rfl, by decide +kernel, by decide +kernel⟩

def IsLtsL (H : Hp) (v : V) (ls : List Lt) : Prop := ∃ a xs, v = .ref a ∧ H a = some (.lst xs) ∧ xs.length = ls.length ∧ ∀ (i : Nat) (x : V) (e : Lt), xs[i]? = some x → ls[i]? = some e → IsLt H x e
theorem IsLtsL.same {v : V} {ls : List Lt} {H H' : Hp} (h : IsLtsL H v ls) (s : Same H H') : IsLtsL H' v ls := by
  obtain ⟨a, xs, e, ha, n, g⟩ := h
  exact ⟨a, xs, e, s _ _ ha, n, fun i x l h1 h2 => (g i x l h1 h2).same s⟩
theorem IsLtsL.dp {K : PySem.W.Frag} {H : Hp} {v : V} {ls : List Lt} (h : IsLtsL H v ls) : Dp K H v (.list (ls.map lateD)) := by
  obtain ⟨a, xs, rfl, e, n, g⟩ := h
  exact .lst (SqL.of e) (dpAll_lts n g)
theorem lateDs_shapedL {ls : List Lt} (ok : ∀ l ∈ ls, LtOk l) : SeqAt.shaped (.list (ls.map lateD)) = true := by
  have h1 := lateDs_depth ls
  have h2 : PyData.depth (.list (ls.map lateD)) ≤ 64 := by
    simp only [PyData.depth]
    omega
  show (PyData.canLay0 (.list (ls.map lateD)) && decide (PyData.depth (.list (ls.map lateD)) ≤ 64)) = true
  rw [Bool.and_eq_true]
  exact ⟨by simp only [PyData.canLay0]; exact lateDs_lay ok, decide_eq_true h2⟩
theorem op_inDL {X : Cx} (hu : X.A.units + 70 < cLine) : OpR X (compareOp .In) (rInD X.K) := op_inD (by omega)
def ALt (H : Hp) (xs : List V) (ls : List Lt) : Prop := xs.length = ls.length ∧ ∀ (i : Nat) (x : V) (e : Lt), xs[i]? = some x → ls[i]? = some e → IsLt H x e
theorem ALt.app {H : Hp} {xs ys : List V} {ls ms : List Lt} (h : ALt H xs ls) (g : ALt H ys ms) : ALt H (xs ++ ys) (ls ++ ms) := by
  refine ⟨by rw [List.length_append, List.length_append, h.1, g.1], fun i x e h1 h2 => ?_⟩
  by_cases c : i < xs.length
  · rw [List.getElem?_append_left c] at h1
    rw [List.getElem?_append_left (by rw [← h.1]; exact c)] at h2
    exact h.2 i x e h1 h2
  · rw [List.getElem?_append_right (by omega)] at h1
    rw [List.getElem?_append_right (by rw [← h.1]; omega), ← h.1] at h2
    exact g.2 _ x e h1 h2
theorem ALt.take {H : Hp} {xs : List V} {ls : List Lt} (h : ALt H xs ls) (n : Nat) : ALt H (xs.take n) (ls.take n) := by
  refine ⟨by rw [List.length_take, List.length_take, h.1], fun i x e h1 h2 => ?_⟩
  rw [List.getElem?_take] at h1 h2
  split at h1
  · rw [if_pos (by assumption)] at h2
    exact h.2 i x e h1 h2
  · cases h1
theorem ALt.drop {H : Hp} {xs : List V} {ls : List Lt} (h : ALt H xs ls) (n : Nat) : ALt H (xs.drop n) (ls.drop n) := by
  refine ⟨by rw [List.length_drop, List.length_drop, h.1], fun i x e h1 h2 => ?_⟩
  rw [List.getElem?_drop] at h1 h2
  exact h.2 _ x e h1 h2
theorem ALt.one {H : Hp} {x : V} {l : Lt} (h : IsLt H x l) : ALt H [x] [l] := by
  refine ⟨rfl, fun i y e h1 h2 => ?_⟩
  cases i with
  | zero =>
    cases h1
    cases h2
    exact h
  | succ n => cases h1
theorem ALt.same {H H' : Hp} {xs : List V} {ls : List Lt} (h : ALt H xs ls) (s : Same H H') : ALt H' xs ls := ⟨h.1, fun i x e h1 h2 => (h.2 i x e h1 h2).same s⟩
theorem cut_take {xs : List V} {n : Nat} (h : n ≤ xs.length) : cutV xs none (some (n : Int)) = xs.take n := by
  unfold cutV
  have e : HT.sIx xs.length xs.length (some (n : Int)) = n := by
    rw [HT.sIx_nat]
    omega
  rw [e]
  rfl
theorem cut_drop {xs : List V} {n : Nat} (h : n ≤ xs.length) : cutV xs (some (n : Int)) none = xs.drop n := by
  unfold cutV
  have e : HT.sIx xs.length 0 (some (n : Int)) = n := by
    rw [HT.sIx_nat]
    omega
  have e2 : HT.sIx xs.length xs.length none = xs.length := rfl
  rw [e, e2]
  exact List.take_of_length_le (by rw [List.length_drop]; omega)
def spInOrder : Sp := fun vs H Q _ => ∃ (v : V) (ls : List Lt), vs = [v] ∧ IsLtsL H v ls ∧ ls.length ≤ 900 ∧ (∀ l ∈ ls, LtOk l) ∧ ∀ v' H' ms, Same H H' → IsLtsL H' v' ms → ms.Pairwise LL → (∀ l ∈ ms, l ∈ ls) → ms.length ≤ ls.length → Q v' H'
theorem ok_inorder {f : Addr} {fd : FuncData} (F : Fun K "_law_in_order" "_law_in_order" s__law_in_order f fd) (T : Txt mg) : FnOk P w K mg base CX0 1 f fd P__law_in_order spInOrder := by
  refine F.ok sc__law_in_order (fun vs H Q E h => ?_) (fun cdv A outer s H vs Q E hr h => ?_)
  · obtain ⟨v, ls, rfl, _⟩ := h
    rfl
  · obtain ⟨v, ls, rfl, ⟨a, xs, rfl, ha, ln, g⟩, few, ok, k⟩ := h
    have sz := sizeLine_eq
    refine ⟨_, (pss_cons (ps_set (i := 1) sc__law_in_order.nd rfl (Or.inl rfl) (pe_lst pa_nil))
      (pss_cons (ps_for PassesOwn.never rfl (pi_list (pv 0)) (pg_name (i := 2) sc__law_in_order.nd rfl (Or.inr rfl)) (pss_cons (ps_set (i := 3) sc__law_in_order.nd rfl (Or.inl rfl) (pe_callB call_len_seq (by rfl) T.n_len (by decide +kernel) (pa_cons (pe_lc (own := [("_law_one", 4)]) (g := gName 4)  rfl sc__law_in_order.nd (pi_list (pv 1)) (blkOk_by (N := N__law_in_order) (sc := defScope s__law_in_order) (by decide +kernel)) (fun _ _ _ _ _ => (pg_name (i := 4) sc__law_in_order.nd rfl (Or.inl rfl))) (fun _ _ _ _ _ => (pts_one (pt_cmpR (op_ltD (K := K) hr.units) (pv 4) (pv 2) (nomark _)))) (fun _ _ _ _ _ => (pv 4))) pa_nil)))
      (pss_one (ps_set (i := 1) sc__law_in_order.nd rfl (Or.inl rfl) (pe_ifExp (pt_cmpR (op_inDL (hu70 hr)) (pv 2) (pv 1) rfl) (pv 1) (pe_op op_cat (pe_op op_cat (pe_slice sl_list (pv 1) po_none (po_some (pv 3))) (pe_lst (pa_cons (pv 2) pa_nil))) (pe_slice sl_list (pv 1) (po_some (pv 3)) po_none)))))))
      (pss_one (ps_ret (pv 1))))), ?_⟩
    unfold tLc
    fail "z run"
    intro f0 hf0
    fail "z run"
    with_reducible refine rd_for ?_
    with_reducible refine rd_iL ?_
    fail "z run"
    have S0 : Same H (upd H f0 (.lst [])) := same_new hf0
    refine rd_iLa (S0 _ _ ha) (for_list (K := K) (a := a) (xs := xs) (fun i σ H' => ∃ vf ms b c d, σ = [some (.ref a), some vf, b, c, d] ∧ Same H H' ∧ IsLtsL H' vf ms ∧ ms.Pairwise LL ∧ (∀ l ∈ ms, l ∈ ls) ∧ ms.length ≤ i) ⟨_, [], _, _, _, rfl, S0, ⟨f0, [], rfl, upd_same, rfl, fun i x e h1 => by cases h1⟩, .nil, by simp, Nat.le_refl _⟩ (fun i σ H' _ ⟨_, _, _, _, _, _, S, _⟩ => SqL.of (S _ _ ha)) ?_ ?_)
    · rintro i y σ H' hy ⟨vf, ms, b, c, d, rfl, S, hf, pw, mem, lm⟩
      have li : i < ls.length := by
        rw [← ln]
        exact (List.getElem?_eq_some_iff.mp hy).1
      obtain ⟨l, hl⟩ : ∃ l, ls[i]? = some l := ⟨_, List.getElem?_eq_getElem li⟩
      have yl := (g i y l hy hl).same S
      have lok := ok l (List.mem_of_getElem? hl)
      have mok : ∀ q ∈ ms, LtOk q := fun q m => ok q (mem q m)
      obtain ⟨af, xf, rfl, haf, lf, gf⟩ := id hf
      fail "z run"
      with_reducible refine rd_iL ?_
      fail "z run"
      refine rd_iLa haf fun D hD => lc_list (K := K) (xs := xf) (fun m H3 => Same H' H3 ∧ ∃ acc, H3 D = some (.lst acc) ∧ acc.length = ((ms.take m).filter fun q => ltL q l).length) ⟨same_new hD, [], upd_same, rfl⟩ (fun i H3 _ q => SqL.of (q.1 _ _ haf)) ?_ ?_
      · rintro m z H3 hz ⟨S3, acc, hL, la⟩
        have lm2 : m < ms.length := by
          rw [← lf]
          exact (List.getElem?_eq_some_iff.mp hz).1
        obtain ⟨q, hq⟩ : ∃ q, ms[m]? = some q := ⟨_, List.getElem?_eq_getElem lm2⟩
        have zq := (gf m z q hz hq).same S3
        have qt := List.take_succ (l := ms) (i := m)
        rw [hq] at qt
        fail "z run"
        refine ⟨rfl, ?_⟩
        fail "z run"
        refine ⟨_, _, zq.dp, (yl.same S3).dp, lateD_alike _ _, nofun, by rw [lateD_depth]; decide, ?_⟩
        rw [lateD_lt]
        fail "z run"
        refine rd_iteB (fun c => ?_) (fun c => ?_)
        · fail "z run"
          refine ⟨acc, hL, ?_, fun b u e => (upd_ne (ne_of_none e hD)).trans (S3 b u e), _, upd_same, ?_⟩
          · have := List.length_filter_le (fun q => ltL q l) (ms.take m)
            have := List.length_take_le m ms
            omega
          · rw [qt, List.filter_append, List.length_append, List.length_append, la]
            show _ = _ + (List.filter (fun q => ltL q l) [q]).length
            rw [List.filter_cons, c]
            rfl
        · refine ⟨S3, acc, hL, ?_⟩
          rw [qt, List.filter_append, List.length_append, la]
          show _ = _ + (List.filter (fun q => ltL q l) [q]).length
          rw [List.filter_cons, c]
          rfl
      · rintro H3 ⟨S3, acc, hL, la⟩
        rw [lf, List.take_length] at la
        have hf3 := hf.same S3
        have haf3 := S3 _ _ haf
        fail "z run"
        refine ⟨_, _, (yl.same S3).dp, IsLtsL.dp hf3, lateD_shaped lok, lateDs_shapedL mok, ?_⟩
        rw [lateDs_any]
        fail "z run"
        refine rd_iteB (fun c => ?_) (fun c => ?_)
        · fail "z run"
          exact ⟨_, ms, _, _, _, rfl, S.trans S3, hf3, pw, mem, by omega⟩
        have nin := of_decide_eq_false c
        unfold tSl tNoPart tPart
        fail "z run"
        have la2 : acc.length ≤ xf.length := by
          rw [lf, la]
          exact List.length_filter_le _ _
        refine ⟨acc.length, rfl, af, xf, rfl, SqL.of haf3, fun p np => ?_⟩
        have S4 := S3.trans (same_new (o := .lst (cutV xf none (some (acc.length : Int)))) np)
        rw [cut_take la2] at S4 ⊢
        have haf4 := S4 _ _ haf
        fail "z run"
        intro p1 np1
        have S5 := S4.trans (same_new (o := .lst [y]) np1)
        have lxf : xf.length ≤ 900 := by omega
        refine ⟨p, p1, xf.take acc.length, [y], rfl, rfl, (upd_ne (ne_of_none upd_same np1)).trans upd_same, upd_same, by rw [List.length_take, List.length_singleton]; omega, fun p2 np2 => ?_⟩
        have S6 := S5.trans (same_new (o := .lst (xf.take acc.length ++ [y])) np2)
        fail "z run"
        refine ⟨acc.length, rfl, af, xf, rfl, SqL.of (S6 _ _ haf), fun p3 np3 => ?_⟩
        rw [cut_drop la2] at *
        have S7 := S6.trans (same_new (o := .lst (xf.drop acc.length)) np3)
        refine ⟨p2, p3, xf.take acc.length ++ [y], xf.drop acc.length, rfl, rfl, (upd_ne (ne_of_none upd_same np3)).trans upd_same, upd_same, by rw [List.length_append, List.length_take, List.length_singleton, List.length_drop]; omega, fun p4 np4 => ?_⟩
        have S8 := S7.trans (same_new (o := .lst ((xf.take acc.length ++ [y]) ++ xf.drop acc.length)) np4)
        fail "z run"
        have A : ALt H' xf ms := ⟨lf, gf⟩
        have e : insL ms l = (ms.take acc.length ++ [l]) ++ ms.drop acc.length := by
          unfold insL
          rw [if_neg nin, la]
        have B := (((A.take acc.length).app (.one yl)).app (A.drop acc.length)).same S8
        rw [← e] at B
        refine ⟨_, insL ms l, _, _, _, rfl, S.trans S8, ⟨p4, _, rfl, upd_same, B.1, B.2⟩, insL_sorted pw, fun q m => ?_, Nat.le_trans insL_len (by omega)⟩
        rcases insL_mem m with m | rfl
        · exact mem q m
        · exact List.mem_of_getElem? hl
    · rintro σ H' ⟨vf, ms, b, c, d, rfl, S, hf, pw, mem, lm⟩
      fail "z run"
      exact k _ _ ms S hf pw mem (by omega)
/-! ### the law: its worlds -/
def WDict (H : Hp) (d : Addr) (n w c p : V) : Prop := H d = some (.dK [(.inr "narrow", n), (.inr "wide", w), (.inr "columns", c), (.inr "programs", p)])
def IsPair (H : Hp) (v : V) (a b : Int) : Prop := ∃ t, v = .ref t ∧ H t = some (.tup [.int a, .int b])
theorem IsPair.same {v : V} {a b : Int} {H H' : Hp} (h : IsPair H v a b) (s : Same H H') : IsPair H' v a b := by
  obtain ⟨t, e, h⟩ := h
  exact ⟨t, e, s _ _ h⟩
theorem wd_narrow {H : Hp} {d : Addr} {n w c p : V} (h : WDict H d n w c p) : DGet H d (.str "narrow") (some n) := by
  have e : valV [((.inr "narrow" : Key), n), (.inr "wide", w), (.inr "columns", c), (.inr "programs", p)] (.inr "narrow") = some n := valV_pos rfl
  rw [← e]
  exact DGet.k (k := .inr "narrow") h
theorem wd_wide {H : Hp} {d : Addr} {n w c p : V} (h : WDict H d n w c p) : DGet H d (.str "wide") (some w) := by
  have e : valV [((.inr "narrow" : Key), n), (.inr "wide", w), (.inr "columns", c), (.inr "programs", p)] (.inr "wide") = some w := (valV_neg (show ¬ ((.inr "narrow" : Key) = .inr "wide") by decide +kernel)).trans (valV_pos rfl)
  rw [← e]
  exact DGet.k (k := .inr "wide") h
theorem wd_columns {H : Hp} {d : Addr} {n w c p : V} (h : WDict H d n w c p) : DGet H d (.str "columns") (some c) := by
  have e : valV [((.inr "narrow" : Key), n), (.inr "wide", w), (.inr "columns", c), (.inr "programs", p)] (.inr "columns") = some c := (valV_neg (show ¬ ((.inr "narrow" : Key) = .inr "columns") by decide +kernel)).trans ((valV_neg (show ¬ ((.inr "wide" : Key) = .inr "columns") by decide +kernel)).trans (valV_pos rfl))
  rw [← e]
  exact DGet.k (k := .inr "columns") h
theorem wd_programs {H : Hp} {d : Addr} {n w c p : V} (h : WDict H d n w c p) : DGet H d (.str "programs") (some p) := by
  have e : valV [((.inr "narrow" : Key), n), (.inr "wide", w), (.inr "columns", c), (.inr "programs", p)] (.inr "programs") = some p := (valV_neg (show ¬ ((.inr "narrow" : Key) = .inr "programs") by decide +kernel)).trans ((valV_neg (show ¬ ((.inr "wide" : Key) = .inr "programs") by decide +kernel)).trans ((valV_neg (show ¬ ((.inr "columns" : Key) = .inr "programs") by decide +kernel)).trans (valV_pos rfl)))
  rw [← e]
  exact DGet.k (k := .inr "programs") h
def CalW (P : Program) (w : World) (K : PySem.W.Frag) (mg : Str → Option Value) (base : Heap) (C W : Addr) : Prop :=
  ∃ (f : Addr) (fd : FuncData), Mk K W f ∧ FnOk P w K mg base CX0 7 f fd P_World___init__ (spWd C W) ∧ Binds K fd P_World___init__ [] ∧ mg "World" = some (.ref W)
def KPos (x : Wd) : Prop := x.lo ≤ 0 ∧ 0 ≤ x.hi ∧ x.Lo ≤ 0 ∧ 0 ≤ x.Hi
def WdD (H : Hp) (v : V) (x : Wd) : Prop := ∃ d n w c p, v = .ref d ∧ WDict H d n w c p ∧ IsPair H n x.lo x.hi ∧ IsPair H w x.Lo x.Hi ∧ IsStrs H c x.cs ∧ IsTupOf IsPg H p x.ps
theorem WdD.same {v : V} {x : Wd} {H H' : Hp} (h : WdD H v x) (s : Same H H') : WdD H' v x := by
  obtain ⟨d, n, w, c, p, e, h, h1, h2, h3, h4⟩ := h
  exact ⟨d, n, w, c, p, e, s _ _ h, h1.same s, h2.same s, h3.same s, h4.same (fun _ _ q => q.same s) s⟩
/-- the heap without the pot -/
def mn (p : Addr) (H : Hp) : Hp := fun b => if b = p then none else H b
theorem mn_ne {p b : Addr} {H : Hp} (h : b ≠ p) : mn p H b = H b := if_neg h
theorem mn_le {p : Addr} {H : Hp} : Same (mn p H) H := fun b o e => by
  unfold mn at e
  split at e
  · cases e
  · exact e
theorem mn_kp {p : Addr} {H H' : Hp} (k : Kp p H H') : Same (mn p H) (mn p H') := fun b o e => by
  unfold mn at *
  split at e
  · cases e
  · rename_i ne
    rw [if_neg ne]
    exact k b o ne e
theorem kp_mn {p : Addr} {H H' : Hp} (k : Same (mn p H) (mn p H')) : Kp p H H' := fun b o ne e => by
  have z := k b o (by rw [mn_ne ne]; exact e)
  rw [mn_ne ne] at z
  exact z
theorem mn_nep {p b : Addr} {H : Hp} {o : HO} (e : mn p H b = some o) : b ≠ p := fun h => by
  unfold mn at e
  rw [if_pos h] at e
  cases e
theorem mn_same {p : Addr} {H H' : Hp} (s : Same H H') : Same (mn p H) (mn p H') := mn_kp fun b o _ e => s b o e
theorem rd_World2 {C W n w : Addr} {c p : V} {H : Hp} {E : XK} {x : Wd} {R : Addr → Hp → Prop} (hP : WdP C H n w c p x) (hS : WdS x) (hB : wdB x) (k : ∀ (a dx : Addr) (H' : Hp), H a = none → Same H H' → H' a = some (.ins W dx (wf (.ref n) (.ref w) c p)) → R a H') :
    ∀ y dx, H y = none → H dx = none → dx ≠ y → spWd C W (.ref y :: ([V.ref n, V.ref w, c, p] ++ [])) (upd (upd H dx (.own y)) y (.ins W dx [])) (fun v H2 => v = .non ∧ R y H2) E := by
  intro y dx ny nd ne
  have S0 : Same H (upd (upd H dx (.own y)) y (.ins W dx [])) := fun b o e => (upd_ne (ne_of_none e ny)).trans ((upd_ne (ne_of_none e nd)).trans e)
  refine ⟨y, dx, n, w, c, p, x, rfl, hP.same S0, hS, hB, upd_same, fun H' kp hy => ?_⟩
  have S1 : Same H H' := fun b o e => kp b o (ne_of_none e ny) (S0 _ _ e)
  exact ⟨rfl, k y dx H' ny S1 hy⟩
theorem IsKind.mnp {C a p : Addr} {lo hi : Int} {H : Hp} (h : IsKind C H a lo hi) (ne : a ≠ p) : IsKind C (mn p H) a lo hi := by
  obtain ⟨dx, e⟩ := h
  exact ⟨dx, by rw [mn_ne ne]; exact e⟩
theorem Pot.same' {H H' : Hp} {p : Addr} {n : Nat} (h : Pot H p n) (s : Same H H') : Pot H' p n := by
  obtain ⟨x, z, c, a, b⟩ := h
  exact ⟨x, z, c, s _ _ a, b⟩
def spMade (C W : Addr) : Sp := fun vs H Q _ => ∃ (v : V) (x : Wd) (p : Addr) (m : Nat), vs = [v] ∧ Pot H p m ∧ WdD (mn p H) v x ∧ KPos x ∧ WdS x ∧ wdB x ∧ ∀ a H', Same H H' → IsWd C W (mn p H') a x → Q (.ref a) H'
theorem ok_made {f C W : Addr} {fd : FuncData} (F : Fun K "_law_made" "_law_made" s__law_made f fd) (c_K : CalK P w K mg base C) (c_W : CalW P w K mg base C W) : FnOk P w K mg base CX0 9 f fd P__law_made (spMade C W) := by
  obtain ⟨f_K, fd_K, mk_Kind, G_Kind, b_Kind, g_Kind⟩ := c_K
  obtain ⟨f_W, fd_W, mk_World, G_World, b_World, g_World⟩ := c_W
  refine F.ok sc__law_made (fun vs H Q E h => ?_) (fun cdv A outer s H vs Q E hr h => ?_)
  · obtain ⟨v, x, p0, m0, rfl, _⟩ := h
    rfl
  · obtain ⟨v, x, p0, m0, rfl, hp, hd, kp, hS, hB, k⟩ := h
    obtain ⟨d, n, ww, c, p, rfl, h, h1, h2, h3, h4⟩ := id hd
    obtain ⟨tn, rfl, hn⟩ := id h1
    obtain ⟨tw, rfl, hw⟩ := id h2
    have hn := mn_le _ _ hn
    have hw := mn_le _ _ hw
    have h := mn_le _ _ h
    refine ⟨_, (pss_cons (ps_par (i := 1) (j := 2) rfl sc__law_made.nd rfl rfl (by decide) rfl rfl (pa_cons (pe_dget (lt_units hr.units) (pv 0) pe_str (fun _ _ => rfl)) (pa_cons (pe_dget (lt_units hr.units) (pv 0) pe_str (fun _ _ => rfl)) pa_nil)) (by rfl))
      (pss_one (ps_ret (pe_make mk_World G_World (hr.mono (by decide)) rfl g_World b_World .nil pass0 (pa_cons (pe_make mk_Kind G_Kind (hr.mono (by decide)) rfl g_Kind b_Kind .nil pass0 (pa_cons (pe_ix ix_tup (pv 1) pe_int (fun _ _ => rfl)) (pa_cons (pe_ix ix_tup (pv 1) pe_int (fun _ _ => rfl)) pa_nil))) (pa_cons (pe_make mk_Kind G_Kind (hr.mono (by decide)) rfl g_Kind b_Kind .nil pass0 (pa_cons (pe_ix ix_tup (pv 2) pe_int (fun _ _ => rfl)) (pa_cons (pe_ix ix_tup (pv 2) pe_int (fun _ _ => rfl)) pa_nil))) (pa_cons (pe_dget (lt_units hr.units) (pv 0) pe_str (fun _ _ => rfl)) (pa_cons (pe_dget (lt_units hr.units) (pv 0) pe_str (fun _ _ => rfl)) pa_nil)))))))), ?_⟩
    unfold tDGet
    fail "z run"
    refine ⟨d, _, rfl, wd_narrow h, ?_⟩
    fail "z run"
    refine ⟨d, _, rfl, wd_wide h, ?_⟩
    fail "z run"
    refine rd_Kind kp.1 kp.2.1 fun a1 H1 n1 S1 k1 => ?_
    have h := S1 _ _ h
    have hw := S1 _ _ hw
    have q1 := k1.mnp (hp.ne n1).symm
    have hp := hp.same' S1
    fail "z run"
    refine rd_Kind kp.2.2.1 kp.2.2.2 fun a2 H2 n2 S2 k2 => ?_
    have h := S2 _ _ h
    have q2 := k2.mnp (hp.ne n2).symm
    have hp := hp.same' S2
    have S2' := S1.trans S2
    have M2 := mn_same (p := p0) S2'
    have q1 := q1.same (mn_same S2)
    fail "z run"
    refine ⟨d, _, rfl, wd_columns h, ?_⟩
    fail "z run"
    refine ⟨d, _, rfl, wd_programs h, ?_⟩
    fail "z run"
    have WP : WdP C (mn p0 H2) a1 a2 c p x := ⟨q1, q2, h3.same M2, h4.same (fun _ _ q => q.same M2) M2⟩
    refine rd_World2 (x := x) (WP.same mn_le) hS hB fun a3 dx H3 n3 S3 w3 => ?_
    exact k _ _ (S2'.trans S3) ⟨dx, a1, a2, c, p, by rw [mn_ne (hp.ne n3).symm]; exact w3, WP.same (mn_same S3)⟩
/-! ### the law: worlds with late numbers -/
def elE : Ed := ("narrow", [("id", "narrow", [])], [("id", "narrow", "cut", "", 1)])
def dbE (how : Str) : Ed := ("narrow", [("id", "narrow", [])], [("id", how, "cut", "", 2)])
def psA : List Pg := [("desk", [elE, dbE "narrow first"]), ("shop", [elE, elE, dbE "wide first"])]
def psB : List Pg := [("shop", [elE, dbE "narrow first", dbE "wide first"])]
def tsA : List (Str × Int) := [("desk", 1), ("shop", 2)]
def tsB : List (Str × Int) := [("shop", 1), ("shop", 2)]
structure GoodW (x : Wd) (ts : List (Str × Int)) : Prop where
  kp : KPos x
  sm : WdS x
  ok : wdB x
  few : ts.length = 2
  t7 : x.lo + 7 ≤ x.hi
  t20 : x.hi + 20 ≤ x.Hi
  so : ∀ t ∈ ts, PyData.strOk t.1 = true
  lt : ∀ t ∈ ts, ∀ w, strIn w vLATE = true → lateP x (t.1, t.2, w)
def IsKnd (lo hi Lo Hi : Int) : Prop := (lo = 0 ∧ hi = 15 ∧ Lo = 0 ∧ Hi = 99) ∨ (lo = 0 ∧ hi = 255 ∧ Lo = 0 ∧ Hi = 65535) ∨ (lo = -8 ∧ hi = 20 ∧ Lo = -9 ∧ Hi = 400)
theorem edS_el : EdS elE := ⟨by decide, by decide, fun r m => by rw [List.mem_singleton.mp m]; decide⟩
theorem edS_db (h : Str) : EdS (dbE h) := ⟨by show 1 ≤ 900; decide, by show 1 ≤ 900; decide, fun r m => by rw [List.mem_singleton.mp m]; decide⟩
theorem good_A {x : Wd} (h : IsKnd x.lo x.hi x.Lo x.Hi) (hc : x.cs = [("id" : Str)]) (hp : x.ps = psA) : GoodW x tsA := by
  obtain ⟨lo, hi, Lo, Hi, cs, ps⟩ := x
  simp only at hc hp
  subst hc hp
  have kd : KPos ⟨lo, hi, Lo, Hi, ["id"], psA⟩ ∧ kindsB lo hi Lo Hi = true ∧ lo + 7 ≤ hi ∧ hi + 20 ≤ Hi := by
    rcases h with ⟨rfl, rfl, rfl, rfl⟩ | ⟨rfl, rfl, rfl, rfl⟩ | ⟨rfl, rfl, rfl, rfl⟩
    · exact ⟨by unfold KPos; decide, by decide +kernel, by decide, by decide⟩
    · exact ⟨by unfold KPos; decide, by decide +kernel, by decide, by decide⟩
    · exact ⟨by unfold KPos; decide, by decide +kernel, by decide, by decide⟩
  refine ⟨kd.1, ⟨by show 1 ≤ 900; decide, fun c m => by rw [List.mem_singleton.mp m]; decide, by show 2 ≤ 900; decide, fun p m => ?_⟩, ⟨kd.2.1, (by decide +kernel : colsB [("id" : Str)] = true), (by decide +kernel : pgsB [("id" : Str)] psA = true)⟩, rfl, kd.2.2.1, kd.2.2.2, ?_, ?_⟩
  · rcases List.mem_cons.mp m with rfl | m
    · refine ⟨by decide, by decide, fun e m => ?_⟩
      rcases List.mem_cons.mp m with rfl | m
      · exact edS_el
      · rw [List.mem_singleton.mp m]
        exact edS_db _
    · rw [List.mem_singleton.mp m]
      refine ⟨by decide, by decide, fun e m => ?_⟩
      rcases List.mem_cons.mp m with rfl | m
      · exact edS_el
      · rcases List.mem_cons.mp m with rfl | m
        · exact edS_el
        · rw [List.mem_singleton.mp m]
          exact edS_db _
  · intro t m
    rcases List.mem_cons.mp m with rfl | m
    · decide +kernel
    · rw [List.mem_singleton.mp m]
      decide +kernel
  · intro t m w hw
    rcases List.mem_cons.mp m with rfl | m
    · exact ⟨hw, 1, dbE "narrow first", rfl, (by kernel_rfl : (edsOf psA "desk")[1]? = some (dbE "narrow first")), by decide +kernel⟩
    · rw [List.mem_singleton.mp m]
      exact ⟨hw, 2, dbE "wide first", rfl, (by kernel_rfl : (edsOf psA "shop")[2]? = some (dbE "wide first")), by decide +kernel⟩
theorem good_B {x : Wd} (h : IsKnd x.lo x.hi x.Lo x.Hi) (hc : x.cs = [("id" : Str)]) (hp : x.ps = psB) : GoodW x tsB := by
  obtain ⟨lo, hi, Lo, Hi, cs, ps⟩ := x
  simp only at hc hp
  subst hc hp
  have kd : KPos ⟨lo, hi, Lo, Hi, ["id"], psB⟩ ∧ kindsB lo hi Lo Hi = true ∧ lo + 7 ≤ hi ∧ hi + 20 ≤ Hi := by
    rcases h with ⟨rfl, rfl, rfl, rfl⟩ | ⟨rfl, rfl, rfl, rfl⟩ | ⟨rfl, rfl, rfl, rfl⟩
    · exact ⟨by unfold KPos; decide, by decide +kernel, by decide, by decide⟩
    · exact ⟨by unfold KPos; decide, by decide +kernel, by decide, by decide⟩
    · exact ⟨by unfold KPos; decide, by decide +kernel, by decide, by decide⟩
  refine ⟨kd.1, ⟨by show 1 ≤ 900; decide, fun c m => by rw [List.mem_singleton.mp m]; decide, by show 1 ≤ 900; decide, fun p m => ?_⟩, ⟨kd.2.1, (by decide +kernel : colsB [("id" : Str)] = true), (by decide +kernel : pgsB [("id" : Str)] psB = true)⟩, rfl, kd.2.2.1, kd.2.2.2, ?_, ?_⟩
  · rw [List.mem_singleton.mp m]
    refine ⟨by decide, by decide, fun e m => ?_⟩
    rcases List.mem_cons.mp m with rfl | m
    · exact edS_el
    · rcases List.mem_cons.mp m with rfl | m
      · exact edS_db _
      · rw [List.mem_singleton.mp m]
        exact edS_db _
  · intro t m
    rcases List.mem_cons.mp m with rfl | m
    · decide +kernel
    · rw [List.mem_singleton.mp m]
      decide +kernel
  · intro t m w hw
    rcases List.mem_cons.mp m with rfl | m
    · exact ⟨hw, 1, dbE "narrow first", rfl, (by kernel_rfl : (edsOf psB "shop")[1]? = some (dbE "narrow first")), by decide +kernel⟩
    · rw [List.mem_singleton.mp m]
      exact ⟨hw, 2, dbE "wide first", rfl, (by kernel_rfl : (edsOf psB "shop")[2]? = some (dbE "wide first")), by decide +kernel⟩
theorem fr_all {p t : Addr} {H H1 : Hp} {o : HO} {n : Nat} (hh : upd H t o = H1) (nn : H t = none) (hp : Pot H p n) : Same (mn p H) (mn p H1) ∧ mn p H1 t = some o ∧ Pot H1 p n := by
  subst hh
  refine ⟨mn_same (same_new nn), ?_, hp.new nn⟩
  rw [mn_ne (hp.ne nn).symm]
  exact upd_same
local macro_rules | `(tactic| fail "z upp") => `(tactic| first | assumption | (refine (by assumption : Same _ _) _ _ ?_; fail "z upp"))
theorem mn_tl {D b : Addr} {X : Hp} {xs ys : List V} (e : X b = some (.tup xs)) (f : X D = some (.lst ys)) : mn D X b = some (.tup xs) := by
  rw [mn_ne (fun h => by rw [h, f] at e; cases e)]
  exact e
theorem mn_put {p D : Addr} {H : Hp} {o : HO} : Same (mn D (mn p H)) (mn D (mn p (upd H D o))) := fun b u e => by
  unfold mn at *
  split at e
  · cases e
  · rename_i nD
    rw [if_neg nD]
    split at e
    · cases e
    · rename_i np
      rw [if_neg np, upd_ne nD]
      exact e
theorem tupOf_nil {α : Type} {P : Hp → V → α → Prop} {H : Hp} {a : Addr} (h : H a = some (.tup [])) : IsTupOf P H (.ref a) [] := ⟨a, [], rfl, h, rfl, fun i x e hx => by cases hx⟩
theorem tupOf_one {α : Type} {P : Hp → V → α → Prop} {H : Hp} {a : Addr} {x : V} {e : α} (h : H a = some (.tup [x])) (q : P H x e) : IsTupOf P H (.ref a) [e] := ⟨a, [x], rfl, h, rfl, fun i y f hy hf => by
  cases i with
  | zero =>
    cases hy
    cases hf
    exact q
  | succ n => cases hy⟩
theorem tupOf_two {α : Type} {P : Hp → V → α → Prop} {H : Hp} {a : Addr} {x y : V} {e f : α} (h : H a = some (.tup [x, y])) (q : P H x e) (r : P H y f) : IsTupOf P H (.ref a) [e, f] := ⟨a, [x, y], rfl, h, rfl, fun i z g hy hf => by
  match i with
  | 0 =>
    cases hy
    cases hf
    exact q
  | 1 =>
    cases hy
    cases hf
    exact r
  | n + 2 => cases hy⟩
theorem tupOf_three {α : Type} {P : Hp → V → α → Prop} {H : Hp} {a : Addr} {x y z : V} {e f g : α} (h : H a = some (.tup [x, y, z])) (q : P H x e) (r : P H y f) (s : P H z g) : IsTupOf P H (.ref a) [e, f, g] := ⟨a, [x, y, z], rfl, h, rfl, fun i w k hy hf => by
  match i with
  | 0 =>
    cases hy
    cases hf
    exact q
  | 1 =>
    cases hy
    cases hf
    exact r
  | 2 =>
    cases hy
    cases hf
    exact s
  | n + 3 => cases hy⟩
def edOf (how : Str) (k : Int) : Ed := ("narrow", [("id", "narrow", [])], [("id", how, "cut", "", k)])
theorem ed_of {H : Hp} {u1 u2 u3 u4 u5 u6 : Addr} {how : Str} {k : Int} (d1 : H u1 = some (.tup [])) (d2 : H u2 = some (.tup [.str "id", .str "narrow", .ref u1])) (d3 : H u3 = some (.tup [.ref u2]))
    (d4 : H u4 = some (.tup [.str "id", .str how, .str "cut", .str "", .int k])) (d5 : H u5 = some (.tup [.ref u4])) (d6 : H u6 = some (.tup [.str "narrow", .ref u3, .ref u5])) : IsEd H (.ref u6) (edOf how k) :=
  ⟨u6, .ref u3, .ref u5, rfl, d6, tupOf_one d3 ⟨u2, .ref u1, rfl, d2, ⟨u1, rfl, d1⟩⟩, tupOf_one d5 ⟨u4, rfl, d4⟩⟩
abbrev vFIRSTS : List Str := ["narrow first", "wide first"]
theorem dict_done {p dd c1 : Addr} {I5 I7 I8 : Hp} {o : HO} {xs : List V} {n : Nat} (nd : I5 dd = none) (S : Same (mn p I5) (mn p I7)) (hh : upd I7 dd o = I8) (b6 : mn p I7 dd = some (.dK [])) (b7 : mn p I7 c1 = some (.tup xs)) (hp : Pot I7 p n) :
    Same (mn p I5) (mn p I8) ∧ mn p I8 dd = some o ∧ mn p I8 c1 = some (.tup xs) ∧ Pot I8 p n := by
  subst hh
  have nep := mn_nep b6
  refine ⟨fun b u e => ?_, ?_, ?_, ?_⟩
  · have np := mn_nep e
    have ndd : b ≠ dd := fun q => by
      rw [q] at e
      rw [mn_le _ _ e] at nd
      cases nd
    have z := S b u e
    rw [mn_ne np] at z ⊢
    rw [upd_ne ndd]
    exact z
  · rw [mn_ne nep]
    exact upd_same
  · have np := mn_nep b7
    have ndd : c1 ≠ dd := fun q => by
      rw [q, b6] at b7
      cases b7
    rw [mn_ne np] at b7 ⊢
    rw [upd_ne ndd]
    exact b7
  · obtain ⟨a, b, c, e, f⟩ := hp
    exact ⟨a, b, c, (upd_ne nep.symm).trans e, f⟩
def kvW (n w c p : V) : List (Key × V) := [(.inr "narrow", n), (.inr "wide", w), (.inr "columns", c), (.inr "programs", p)]
theorem merge_kvW (n w c p : V) : mergeK [] (kvW n w c p) = kvW n w c p := by
  rfl
def IsPrs (H : Hp) (v : V) (ts : List (Str × Int)) : Prop := ∃ a xs, v = .ref a ∧ H a = some (.lst xs) ∧ xs.length = ts.length ∧ ∀ (i : Nat) (x : V) (e : Str × Int), xs[i]? = some x → ts[i]? = some e → ∃ b, x = .ref b ∧ H b = some (.tup [.str e.1, .int e.2])
theorem IsPrs.same {v : V} {ts : List (Str × Int)} {H H' : Hp} (h : IsPrs H v ts) (s : Same H H') : IsPrs H' v ts := by
  obtain ⟨a, xs, e, ha, n, g⟩ := h
  exact ⟨a, xs, e, s _ _ ha, n, fun i x l h1 h2 => by
    obtain ⟨b, e, hb⟩ := g i x l h1 h2
    exact ⟨b, e, s _ _ hb⟩⟩
theorem prs_two {H : Hp} {a b c : Addr} {s t : Str × Int} (h : H a = some (.lst [.ref b, .ref c])) (hb : H b = some (.tup [.str s.1, .int s.2])) (hc : H c = some (.tup [.str t.1, .int t.2])) : IsPrs H (.ref a) [s, t] := ⟨a, _, rfl, h, rfl, fun i x e hx he => by
  match i with
  | 0 =>
    cases hx
    cases he
    exact ⟨b, rfl, hb⟩
  | 1 =>
    cases hx
    cases he
    exact ⟨c, rfl, hc⟩
  | n + 2 => cases hx⟩
def spLateW : Sp := fun vs H Q _ => ∃ (p : Addr) (n : Nat), vs = [.ref p] ∧ Pot H p (n + 2) ∧ ∀ (t l : Addr) (H' : Hp) (x : Wd) (ts : List (Str × Int)) (d : V), Kp p H H' → Pot H' p n → mn p H' t = some (.tup [d, .ref l]) → WdD (mn p H') d x → IsPrs (mn p H') (.ref l) ts → GoodW x ts → Q (.ref t) H'
theorem ok_latew {f : Addr} {fd : FuncData} (F : Fun K "_law_late_world" "_law_late_world" s__law_late_world f fd) (T : Txt mg) (c_of : Cal P w K mg base 2 "_law_of" P__law_of spOf) (c_take : Cal P w K mg base 1 "_law_take" P__law_take spTake) :
    FnOk P w K mg base CX0 3 f fd P__law_late_world spLateW := by
  obtain ⟨f_o, fd_o, G__law_of, b__law_of, g__law_of, k__law_of⟩ := c_of
  obtain ⟨f_t, fd_t, G__law_take, b__law_take, g__law_take, k__law_take⟩ := c_take
  refine F.ok sc__law_late_world (fun vs H Q E h => ?_) (fun cdv A outer s H vs Q E hr h => ?_)
  · obtain ⟨p, n, rfl, _⟩ := h
    rfl
  · obtain ⟨p, n, rfl, hp, k⟩ := h
    refine ⟨_, (pss_cons (ps_asg (pe_call G__law_of (hr.mono (by decide)) rfl g__law_of k__law_of b__law_of .nil pass0 (pa_cons (pv 0) (pa_cons (pe_lst (pa_cons (pe_tup (pa_cons (pe_tup (pa_cons pe_int (pa_cons pe_int pa_nil))) (pa_cons (pe_tup (pa_cons pe_int (pa_cons pe_int pa_nil))) pa_nil))) (pa_cons (pe_tup (pa_cons (pe_tup (pa_cons pe_int (pa_cons pe_int pa_nil))) (pa_cons (pe_tup (pa_cons pe_int (pa_cons pe_int pa_nil))) pa_nil))) (pa_cons (pe_tup (pa_cons (pe_tup (pa_cons (pe_un un_neg pe_int) (pa_cons pe_int pa_nil))) (pa_cons (pe_tup (pa_cons (pe_un un_neg pe_int) (pa_cons pe_int pa_nil))) pa_nil))) pa_nil)))) pa_nil))) (pg_tup rfl (pgs_cons (pg_name (i := 1) sc__law_late_world.nd rfl (Or.inl rfl)) (pgs_cons (pg_name (i := 2) sc__law_late_world.nd rfl (Or.inl rfl)) pgs_nil))))
      (pss_cons (ps_set (i := 3) sc__law_late_world.nd rfl (Or.inl rfl) (pe_tup (pa_cons pe_str (pa_cons (pe_tup (pa_cons (pe_tup (pa_cons pe_str (pa_cons pe_str (pa_cons (pe_tup pa_nil) pa_nil)))) pa_nil)) (pa_cons (pe_tup (pa_cons (pe_tup (pa_cons pe_str (pa_cons pe_str (pa_cons pe_str (pa_cons pe_str (pa_cons pe_int pa_nil)))))) pa_nil)) pa_nil)))))
      (pss_cons (ps_setLc (i := 4) (own := [("_law_how", 6)]) (g := gName 6) (tt := tYes) rfl sc__law_late_world.nd rfl rfl (sw_true rfl rfl rfl (by decide +kernel)) (pi_tup (pe_tup (pa_cons pe_str (pa_cons pe_str pa_nil)))) (blkOk_by (N := N__law_late_world) (sc := defScope s__law_late_world) (by decide +kernel)) (fun _ _ _ _ _ => (pg_name (i := 6) sc__law_late_world.nd rfl (Or.inl rfl))) (fun _ _ _ _ _ => pts_nil) (fun _ _ _ _ _ => (pe_tup (pa_cons pe_str (pa_cons (pe_tup (pa_cons (pe_tup (pa_cons pe_str (pa_cons pe_str (pa_cons (pe_tup pa_nil) pa_nil)))) pa_nil)) (pa_cons (pe_tup (pa_cons (pe_tup (pa_cons pe_str (pa_cons (pv 6) (pa_cons pe_str (pa_cons pe_str (pa_cons pe_int pa_nil)))))) pa_nil)) pa_nil))))))
      (pss_cons (ps_if (pt_cmpR op_eq (pe_call G__law_take (hr.mono (by decide)) rfl g__law_take k__law_take b__law_take .nil pass0 (pa_cons (pv 0) (pa_cons pe_int pa_nil))) pe_int (nomark _)) (pss_cons (ps_set (i := 5) sc__law_late_world.nd rfl (Or.inl rfl) (pe_tup (pa_cons (pe_tup (pa_cons pe_str (pa_cons (pe_tup (pa_cons (pv 3) (pa_cons (pe_ix ix_list (pv 4) pe_int (fun _ _ => rfl)) pa_nil))) pa_nil))) (pa_cons (pe_tup (pa_cons pe_str (pa_cons (pe_tup (pa_cons (pv 3) (pa_cons (pv 3) (pa_cons (pe_ix ix_list (pv 4) pe_int (fun _ _ => rfl)) pa_nil)))) pa_nil))) pa_nil))))
      (pss_one (ps_ret (pe_tup (pa_cons (pe_disp (pps_cons pe_str (pv 1) (pps_cons pe_str (pv 2) (pps_cons pe_str (pe_tup (pa_cons pe_str pa_nil)) (pps_cons pe_str (pv 5) pps_nil)))) rfl rfl (by simp) (by decide)) (pa_cons (pe_lst (pa_cons (pe_tup (pa_cons pe_str (pa_cons pe_int pa_nil))) (pa_cons (pe_tup (pa_cons pe_str (pa_cons pe_int pa_nil))) pa_nil))) pa_nil)))))) pss_nil)
      (pss_cons (ps_set (i := 5) sc__law_late_world.nd rfl (Or.inl rfl) (pe_tup (pa_cons (pe_tup (pa_cons pe_str (pa_cons (pe_tup (pa_cons (pv 3) (pa_cons (pe_ix ix_list (pv 4) pe_int (fun _ _ => rfl)) (pa_cons (pe_ix ix_list (pv 4) pe_int (fun _ _ => rfl)) pa_nil)))) pa_nil))) pa_nil)))
      (pss_one (ps_ret (pe_tup (pa_cons (pe_disp (pps_cons pe_str (pv 1) (pps_cons pe_str (pv 2) (pps_cons pe_str (pe_tup (pa_cons pe_str pa_nil)) (pps_cons pe_str (pv 5) pps_nil)))) rfl rfl (by simp) (by decide)) (pa_cons (pe_lst (pa_cons (pe_tup (pa_cons pe_str (pa_cons pe_int pa_nil))) (pa_cons (pe_tup (pa_cons pe_str (pa_cons pe_int pa_nil))) pa_nil))) pa_nil)))))))))), ?_⟩
    unfold tLc
    fail "z run"
    intro t1 nn0; generalize hh0 : upd _ t1 _ = H1; obtain ⟨M1, e1, hp⟩ := fr_all hh0 nn0 hp; clear hh0 nn0; fail "z run"
    intro t2 nn0; generalize hh0 : upd _ t2 _ = H2; obtain ⟨M2, e2, hp⟩ := fr_all hh0 nn0 hp; clear hh0 nn0; fail "z run"
    intro t3 nn0; generalize hh0 : upd _ t3 _ = H3; obtain ⟨M3, e3, hp⟩ := fr_all hh0 nn0 hp; clear hh0 nn0; fail "z run"
    intro t4 nn0; generalize hh0 : upd _ t4 _ = H4; obtain ⟨M4, e4, hp⟩ := fr_all hh0 nn0 hp; clear hh0 nn0; fail "z run"
    intro t5 nn0; generalize hh0 : upd _ t5 _ = H5; obtain ⟨M5, e5, hp⟩ := fr_all hh0 nn0 hp; clear hh0 nn0; fail "z run"
    intro t6 nn0; generalize hh0 : upd _ t6 _ = H6; obtain ⟨M6, e6, hp⟩ := fr_all hh0 nn0 hp; clear hh0 nn0; fail "z run"
    intro t7 nn0; generalize hh0 : upd _ t7 _ = H7; obtain ⟨M7, e7, hp⟩ := fr_all hh0 nn0 hp; clear hh0 nn0; fail "z run"
    intro t8 nn0; generalize hh0 : upd _ t8 _ = H8; obtain ⟨M8, e8, hp⟩ := fr_all hh0 nn0 hp; clear hh0 nn0; fail "z run"
    intro t9 nn0; generalize hh0 : upd _ t9 _ = H9; obtain ⟨M9, e9, hp⟩ := fr_all hh0 nn0 hp; clear hh0 nn0; fail "z run"
    intro tL nn0; generalize hh0 : upd _ tL _ = HL; obtain ⟨ML, eL, hp⟩ := fr_all hh0 nn0 hp; clear hh0 nn0; fail "z run"
    refine ⟨p, tL, n + 1, _, rfl, hp, mn_nep eL, mn_le _ _ eL, by show 0 < 3; decide, by show 3 ≤ 1000; decide, fun v HV mem kp hp => ?_⟩
    have MV := mn_kp kp
    obtain ⟨tk, kn, kw, lo, hi, Lo, Hi, rfl, ek, ekn, ekw, kd⟩ : ∃ (tk kn kw : Addr) (lo hi Lo Hi : Int), v = .ref tk ∧ mn p HV tk = some (.tup [.ref kn, .ref kw]) ∧ mn p HV kn = some (.tup [.int lo, .int hi]) ∧ mn p HV kw = some (.tup [.int Lo, .int Hi]) ∧ IsKnd lo hi Lo Hi := by
      rcases List.mem_cons.mp mem with rfl | mem
      · exact ⟨t3, t1, t2, _, _, _, _, rfl, by fail "z upp", by fail "z upp", by fail "z upp", .inl ⟨rfl, rfl, rfl, rfl⟩⟩
      · rcases List.mem_cons.mp mem with rfl | mem
        · exact ⟨t6, t4, t5, _, _, _, _, rfl, by fail "z upp", by fail "z upp", by fail "z upp", .inr (.inl ⟨rfl, rfl, rfl, rfl⟩)⟩
        · rw [List.mem_singleton.mp mem]
          exact ⟨t9, t7, t8, _, _, _, _, rfl, by fail "z upp", by fail "z upp", by fail "z upp", .inr (.inr ⟨rfl, rfl, rfl, rfl⟩)⟩
    have M0 : Same (mn p H) (mn p HV) := fun b o e => by fail "z upp"
    clear e1 e2 e3 e4 e5 e6 e7 e8 e9 eL M1 M2 M3 M4 M5 M6 M7 M8 M9 ML MV
    fail "z run"
    refine rd_gtup (mn_le _ _ ek) rfl ?_
    fail "z run"
    intro u1 nn0; generalize hh0 : upd _ u1 _ = G1; obtain ⟨N1, d1, hp⟩ := fr_all hh0 nn0 hp; clear hh0 nn0; fail "z run"
    intro u2 nn0; generalize hh0 : upd _ u2 _ = G2; obtain ⟨N2, d2, hp⟩ := fr_all hh0 nn0 hp; clear hh0 nn0; fail "z run"
    intro u3 nn0; generalize hh0 : upd _ u3 _ = G3; obtain ⟨N3, d3, hp⟩ := fr_all hh0 nn0 hp; clear hh0 nn0; fail "z run"
    intro u4 nn0; generalize hh0 : upd _ u4 _ = G4; obtain ⟨N4, d4, hp⟩ := fr_all hh0 nn0 hp; clear hh0 nn0; fail "z run"
    intro u5 nn0; generalize hh0 : upd _ u5 _ = G5; obtain ⟨N5, d5, hp⟩ := fr_all hh0 nn0 hp; clear hh0 nn0; fail "z run"
    intro u6 nn0; generalize hh0 : upd _ u6 _ = G6; obtain ⟨N6, d6, hp⟩ := fr_all hh0 nn0 hp; clear hh0 nn0; fail "z run"
    have elO : IsEd (mn p G6) (.ref u6) elE := ed_of (u1 := u1) (u2 := u2) (u3 := u3) (u4 := u4) (u5 := u5) (how := "narrow") (k := 1) (by fail "z upp") (by fail "z upp") (by fail "z upp") (by fail "z upp") (by fail "z upp") (by fail "z upp")
    with_reducible refine rd_iT ?_
    fail "z run"
    intro c0 nn0; generalize hh0 : upd _ c0 _ = G7; obtain ⟨N7, ec0, hp⟩ := fr_all hh0 nn0 hp; clear hh0 nn0; fail "z run"
    have elO := elO.same N7
    have ekn : mn p G7 kn = some (.tup [.int lo, .int hi]) := by fail "z upp"
    have ekw : mn p G7 kw = some (.tup [.int Lo, .int Hi]) := by fail "z upp"
    have M1 : Same (mn p H) (mn p G7) := fun b o e => by fail "z upp"
    clear d1 d2 d3 d4 d5 d6 N1 N2 N3 N4 N5 N6 N7 M0 ek
    refine rd_iTa (mn_le _ _ ec0) fun D hD => lc_tup (K := K) (xs := [.str "narrow first", .str "wide first"]) (fun i H3 => Same (mn p G7) (mn p H3) ∧ Pot H3 p (n + 1) ∧ ∃ acc, mn p H3 D = some (.lst acc) ∧ acc.length = i ∧ ∀ (j : Nat) (y : V) (h : Str), acc[j]? = some y → vFIRSTS[j]? = some h → IsEd (mn D (mn p H3)) y (edOf h 2)) ?_ (fun i H3 _ q => SqT.of (mn_le _ _ (q.1 _ _ ec0))) ?_ ?_
    · obtain ⟨a1, a2, a3⟩ := fr_all (o := .lst []) rfl hD hp
      exact ⟨a1, a3, [], a2, rfl, fun j y h e => by cases e⟩
    · rintro i x H3 hx ⟨S3, hp3, acc, hL, la, gE⟩
      obtain ⟨hw, ehw, rfl⟩ : ∃ hw, vFIRSTS[i]? = some hw ∧ x = .str hw := by
        match i, hx with
        | 0, hx => exact ⟨_, rfl, (Option.some.inj hx).symm⟩
        | 1, hx => exact ⟨_, rfl, (Option.some.inj hx).symm⟩
      fail "z run"
      refine ⟨rfl, ?_⟩
      simp only [tYes, ↓reduceIte]
      fail "z run"
      intro w1 nn0; generalize hh0 : upd _ w1 _ = X1; obtain ⟨N1, d1, hp3⟩ := fr_all hh0 nn0 hp3; clear hh0 nn0; fail "z run"
      intro w2 nn0; generalize hh0 : upd _ w2 _ = X2; obtain ⟨N2, d2, hp3⟩ := fr_all hh0 nn0 hp3; clear hh0 nn0; fail "z run"
      intro w3 nn0; generalize hh0 : upd _ w3 _ = X3; obtain ⟨N3, d3, hp3⟩ := fr_all hh0 nn0 hp3; clear hh0 nn0; fail "z run"
      intro w4 nn0; generalize hh0 : upd _ w4 _ = X4; obtain ⟨N4, d4, hp3⟩ := fr_all hh0 nn0 hp3; clear hh0 nn0; fail "z run"
      intro w5 nn0; generalize hh0 : upd _ w5 _ = X5; obtain ⟨N5, d5, hp3⟩ := fr_all hh0 nn0 hp3; clear hh0 nn0; fail "z run"
      intro w6 nn0; generalize hh0 : upd _ w6 _ = X6; obtain ⟨N6, d6, hp3⟩ := fr_all hh0 nn0 hp3; clear hh0 nn0; fail "z run"
      have eL : mn p X6 D = some (.lst acc) := by fail "z upp"
      have iE : IsEd (mn D (mn p X6)) (.ref w6) (edOf hw 2) := ed_of (u1 := w1) (u2 := w2) (u3 := w3) (u4 := w4) (u5 := w5) (mn_tl (by fail "z upp") eL) (mn_tl (by fail "z upp") eL) (mn_tl (by fail "z upp") eL) (mn_tl (by fail "z upp") eL) (mn_tl (by fail "z upp") eL) (mn_tl (by fail "z upp") eL)
      have S6 : Same (mn p H3) (mn p X6) := fun b o e => by fail "z upp"
      have sz := sizeLine_eq
      have li : i < 2 := (List.getElem?_eq_some_iff.mp ehw).1
      have S7 := S3.trans S6
      refine ⟨acc, mn_le _ _ eL, by omega, fun b u e => ?_, ?_, acc ++ [.ref w6], ?_, by rw [List.length_append, la]; rfl, fun j y h hj eh => ?_⟩
      · have nD : b ≠ D := fun q => by
          rw [q] at e
          rw [mn_le _ _ e] at hD
          cases hD
        have np := mn_nep e
        have z := S7 b u e
        rw [mn_ne np] at z ⊢
        rw [upd_ne nD]
        exact z
      · obtain ⟨o, s', c, a, b⟩ := hp3
        exact ⟨o, s', c, (upd_ne (mn_nep eL).symm).trans a, b⟩
      · rw [mn_ne (mn_nep eL)]
        exact upd_same
      · by_cases cj : j < acc.length
        · rw [List.getElem?_append_left cj] at hj
          exact ((gE j y h hj eh).same (mn_same S6)).same mn_put
        · have ej : j = acc.length := by
            have := (List.getElem?_eq_some_iff.mp hj).1
            rw [List.length_append, List.length_singleton] at this
            omega
          subst ej
          rw [List.getElem?_append_right (Nat.le_refl _), Nat.sub_self] at hj
          cases hj
          rw [la, ehw] at eh
          cases eh
          exact iE.same mn_put
    · rintro H3 ⟨S3, hp3, acc, hL, la, gE⟩
      obtain ⟨y0, y1, rfl⟩ : ∃ y0 y1, acc = [y0, y1] := by
        match acc, la with
        | [a, b], _ => exact ⟨a, b, rfl⟩
      have E0' : IsEd (mn p H3) y0 (dbE "narrow first") := (gE 0 y0 _ rfl rfl).same mn_le
      have E1' : IsEd (mn p H3) y1 (dbE "wide first") := (gE 1 y1 _ rfl rfl).same mn_le
      have elO := elO.same S3
      have ekn := S3 _ _ ekn
      have ekw := S3 _ _ ekw
      have M2 := M1.trans S3
      clear M1 S3 gE la ec0
      fail "z run"
      refine ⟨p, n, 2, rfl, hp3, by decide, by decide, fun r H4 _ _ kp4 hp4 => ?_⟩
      have M4 := mn_kp kp4
      have E0' := E0'.same M4
      have E1' := E1'.same M4
      have elO := elO.same M4
      have ekn := M4 _ _ ekn
      have ekw := M4 _ _ ekw
      have hL := M4 _ _ hL
      have M2 := M2.trans M4
      clear M4 kp4
      fail "z run"
      refine rd_iteB (fun c => ?_) (fun c => ?_)
      · fail "z run"
        refine rd_ixL (mn_le _ _ hL) (atI_nat (j := 0) rfl) ?_
        fail "z run"
        intro a1 nn0; generalize hh0 : upd _ a1 _ = I1; obtain ⟨J1, b1, hp4⟩ := fr_all hh0 nn0 hp4; clear hh0 nn0; fail "z run"
        intro a2 nn0; generalize hh0 : upd _ a2 _ = I2; obtain ⟨J2, b2, hp4⟩ := fr_all hh0 nn0 hp4; clear hh0 nn0; fail "z run"
        refine rd_ixL (mn_le _ _ (J2 _ _ (J1 _ _ hL))) (atI_nat (j := 1) rfl) ?_
        fail "z run"
        intro a3 nn0; generalize hh0 : upd _ a3 _ = I3; obtain ⟨J3, b3, hp4⟩ := fr_all hh0 nn0 hp4; clear hh0 nn0; fail "z run"
        intro a4 nn0; generalize hh0 : upd _ a4 _ = I4; obtain ⟨J4, b4, hp4⟩ := fr_all hh0 nn0 hp4; clear hh0 nn0; fail "z run"
        intro a5 nn0; generalize hh0 : upd _ a5 _ = I5; obtain ⟨J5, b5, hp4⟩ := fr_all hh0 nn0 hp4; clear hh0 nn0; fail "z run"
        have pgO : IsTupOf IsPg (mn p I5) (.ref a5) psA := tupOf_two b5 ⟨a2, .ref a1, rfl, by fail "z upp", tupOf_two (by fail "z upp") (((elO.same J1).same J2).same J3 |>.same J4 |>.same J5) (((E0'.same J1).same J2).same J3 |>.same J4 |>.same J5)⟩ ⟨a4, .ref a3, rfl, by fail "z upp", tupOf_three (by fail "z upp") (((elO.same J1).same J2).same J3 |>.same J4 |>.same J5) (((elO.same J1).same J2).same J3 |>.same J4 |>.same J5) (((E1'.same J1).same J2).same J3 |>.same J4 |>.same J5)⟩
        have ekn : mn p I5 kn = some (.tup [.int lo, .int hi]) := by fail "z upp"
        have ekw : mn p I5 kw = some (.tup [.int Lo, .int Hi]) := by fail "z upp"
        have M5 : Same (mn p H) (mn p I5) := fun b o e => by fail "z upp"
        clear M2 b1 b2 b3 b4 b5 J1 J2 J3 J4 J5 hL
        unfold tDisp
        intro dd nd
        generalize hh : upd I5 dd _ = I6
        obtain ⟨J6, b6, hp4⟩ := fr_all hh nd hp4
        clear hh
        simp only [tPairs]
        fail "z run"
        intro c1 nn0; generalize hh0 : upd _ c1 _ = I7; obtain ⟨J7, b7, hp4⟩ := fr_all hh0 nn0 hp4; clear hh0 nn0; fail "z run"
        refine ⟨mn_le _ _ (J7 _ _ b6), kvW (.ref kn) (.ref kw) (.ref c1) (.ref a5), rfl, by show 4 ≤ 15; decide, ?_⟩
        rw [merge_kvW]
        generalize hh : upd I7 dd _ = I8
        obtain ⟨J8, b8, b7, hp4⟩ := dict_done nd (J6.trans J7) hh (J7 _ _ b6) b7 hp4
        have wd : WdD (mn p I8) (.ref dd) ⟨lo, hi, Lo, Hi, ["id"], psA⟩ := ⟨dd, .ref kn, .ref kw, .ref c1, .ref a5, rfl, b8, ⟨kn, rfl, J8 _ _ ekn⟩, ⟨kw, rfl, J8 _ _ ekw⟩, ⟨c1, rfl, b7⟩, pgO.same (fun _ _ q => q.same J8) J8⟩
        have M8 := M5.trans J8
        clear hh nd J6 J7 J8 b6 b7 b8 M5
        fail "z run"
        intro g1 nn0; generalize hh0 : upd _ g1 _ = L1; obtain ⟨K1, f1, hp4⟩ := fr_all hh0 nn0 hp4; clear hh0 nn0; fail "z run"
        intro g2 nn0; generalize hh0 : upd _ g2 _ = L2; obtain ⟨K2, f2, hp4⟩ := fr_all hh0 nn0 hp4; clear hh0 nn0; fail "z run"
        intro g3 nn0; generalize hh0 : upd _ g3 _ = L3; obtain ⟨K3, f3, hp4⟩ := fr_all hh0 nn0 hp4; clear hh0 nn0; fail "z run"
        intro g4 nn0; generalize hh0 : upd _ g4 _ = L4; obtain ⟨K4, f4, hp4⟩ := fr_all hh0 nn0 hp4; clear hh0 nn0; fail "z run"
        have prs : IsPrs (mn p L4) (.ref g3) tsA := prs_two (by fail "z upp") (by fail "z upp") (by fail "z upp")
        have wd4 := (((wd.same K1).same K2).same K3).same K4
        have ML4 := ((((M8.trans K1).trans K2).trans K3).trans K4)
        exact k g4 g3 _ ⟨lo, hi, Lo, Hi, ["id"], psA⟩ tsA (.ref dd) (kp_mn ML4) hp4 f4 wd4 prs (good_A kd rfl rfl)
      · fail "z run"
        refine rd_ixL (mn_le _ _ hL) (atI_nat (j := 0) rfl) ?_
        fail "z run"
        refine rd_ixL (mn_le _ _ hL) (atI_nat (j := 1) rfl) ?_
        fail "z run"
        intro a1 nn0; generalize hh0 : upd _ a1 _ = I1; obtain ⟨J1, b1, hp4⟩ := fr_all hh0 nn0 hp4; clear hh0 nn0; fail "z run"
        intro a2 nn0; generalize hh0 : upd _ a2 _ = I2; obtain ⟨J2, b2, hp4⟩ := fr_all hh0 nn0 hp4; clear hh0 nn0; fail "z run"
        intro a3 nn0; generalize hh0 : upd _ a3 _ = I3; obtain ⟨J3, b3, hp4⟩ := fr_all hh0 nn0 hp4; clear hh0 nn0; fail "z run"
        have pgO : IsTupOf IsPg (mn p I3) (.ref a3) psB := tupOf_one b3 ⟨a2, .ref a1, rfl, by fail "z upp", tupOf_three (by fail "z upp") (((elO.same J1).same J2).same J3) (((E0'.same J1).same J2).same J3) (((E1'.same J1).same J2).same J3)⟩
        have ekn : mn p I3 kn = some (.tup [.int lo, .int hi]) := by fail "z upp"
        have ekw : mn p I3 kw = some (.tup [.int Lo, .int Hi]) := by fail "z upp"
        have M3 : Same (mn p H) (mn p I3) := fun b o e => by fail "z upp"
        clear M2 b1 b2 b3 J1 J2 J3 hL
        unfold tDisp
        intro dd nd
        generalize hh : upd I3 dd _ = I9
        obtain ⟨J6, b6, hp4⟩ := fr_all hh nd hp4
        clear hh
        simp only [tPairs]
        fail "z run"
        intro c1 nn0; generalize hh0 : upd _ c1 _ = I7; obtain ⟨J7, b7, hp4⟩ := fr_all hh0 nn0 hp4; clear hh0 nn0; fail "z run"
        refine ⟨mn_le _ _ (J7 _ _ b6), kvW (.ref kn) (.ref kw) (.ref c1) (.ref a3), rfl, by show 4 ≤ 15; decide, ?_⟩
        rw [merge_kvW]
        generalize hh : upd I7 dd _ = I8
        obtain ⟨J8, b8, b7, hp4⟩ := dict_done nd (J6.trans J7) hh (J7 _ _ b6) b7 hp4
        have wd : WdD (mn p I8) (.ref dd) ⟨lo, hi, Lo, Hi, ["id"], psB⟩ := ⟨dd, .ref kn, .ref kw, .ref c1, .ref a3, rfl, b8, ⟨kn, rfl, J8 _ _ ekn⟩, ⟨kw, rfl, J8 _ _ ekw⟩, ⟨c1, rfl, b7⟩, pgO.same (fun _ _ q => q.same J8) J8⟩
        have M8 := M3.trans J8
        clear hh nd J6 J7 J8 b6 b7 b8 M3
        fail "z run"
        intro g1 nn0; generalize hh0 : upd _ g1 _ = L1; obtain ⟨K1, f1, hp4⟩ := fr_all hh0 nn0 hp4; clear hh0 nn0; fail "z run"
        intro g2 nn0; generalize hh0 : upd _ g2 _ = L2; obtain ⟨K2, f2, hp4⟩ := fr_all hh0 nn0 hp4; clear hh0 nn0; fail "z run"
        intro g3 nn0; generalize hh0 : upd _ g3 _ = L3; obtain ⟨K3, f3, hp4⟩ := fr_all hh0 nn0 hp4; clear hh0 nn0; fail "z run"
        intro g4 nn0; generalize hh0 : upd _ g4 _ = L4; obtain ⟨K4, f4, hp4⟩ := fr_all hh0 nn0 hp4; clear hh0 nn0; fail "z run"
        have prs : IsPrs (mn p L4) (.ref g3) tsB := prs_two (by fail "z upp") (by fail "z upp") (by fail "z upp")
        have wd4 := (((wd.same K1).same K2).same K3).same K4
        have ML4 := ((((M8.trans K1).trans K2).trans K3).trans K4)
        exact k g4 g3 _ ⟨lo, hi, Lo, Hi, ["id"], psB⟩ tsB (.ref dd) (kp_mn ML4) hp4 f4 wd4 prs (good_B kd rfl rfl)
/-! ### the law: drawn marks -/
theorem op_catTK {X : Cx} {K : PySem.W.Frag} (h : X.K = K := by rfl) : OpR X (binaryOp .Add) (rCatT K) := by
  subst h
  exact op_catT
abbrev vW3 : List Str := ["same", "old", "far"]
abbrev vCUT : List Str := ["cut"]
abbrev vVIS : List Str := ["", "ahead", "seen"]
def wordsOf (me : Str) : List Str := vW3 ++ (if me = "great" then vCUT else [])
structure GoodM (x : Wd) (ts : List (Str × Int)) (m : Mrk) (t : Int) : Prop where
  me : m.me = "small" ∨ m.me = "great"
  top : topB x m.me (.int t) = true
  na : m.na = "none" ∨ m.na = "old" ∨ (m.me = "small" ∧ m.na = "same") ∨ (m.me = "great" ∧ m.na = "cut")
  wi : m.wi = "none" ∨ m.wi ∈ wordsOf m.me
  vi : m.vi ∈ vVIS
  pw : m.ls.Pairwise LL
  few : m.ls.length ≤ 900
  ls : ∀ l ∈ m.ls, (l.1, l.2.1) ∈ ts ∧ l.2.2 ∈ wordsOf m.me
theorem rd_ifJ {b : Bool} {ta tb : TE} {σ : L2.St} {H : Hp} {R : VK} (Pr : V → Hp → Prop) (h1 : b = true → ∀ Q : VK, (∀ v H, Pr v H → Q v H) → ta σ H Q) (h2 : b = false → ∀ Q : VK, (∀ v H, Pr v H → Q v H) → tb σ H Q) (k : ∀ v H, Pr v H → R v H) : if b = true then ta σ H R else tb σ H R :=
  rd_iteB (fun c => h1 c R k) (fun c => h2 c R k)
theorem IsLt.mnl {X : Hp} {v : V} {l : Lt} {q : Addr} {ys : List V} (h : IsLt X v l) (f : X q = some (.lst ys)) : IsLt (mn q X) v l := by
  obtain ⟨a, e, h⟩ := h
  exact ⟨a, e, mn_tl h f⟩
theorem ALt.mnl {X : Hp} {xs : List V} {ls : List Lt} {q : Addr} {ys : List V} (h : ALt X xs ls) (f : X q = some (.lst ys)) : ALt (mn q X) xs ls := ⟨h.1, fun i x e a b => (h.2 i x e a b).mnl f⟩
/-- a list of the law's own grows: all else is as it was -/
theorem put_own {p D : Addr} {H0 H1 : Hp} {o ys zs} {n : Nat} (nd : H0 D = none) (S : Same (mn p H0) (mn p H1)) (e : mn p H1 D = some o) (hp : Pot H1 p n) (hy : ys = upd H1 D (.lst zs)) :
    Same (mn p H0) (mn p ys) ∧ Pot ys p n ∧ mn p ys D = some (.lst zs) := by
  subst hy
  have nep := mn_nep e
  refine ⟨fun b u e' => ?_, ?_, ?_⟩
  · have ndd : b ≠ D := fun q => by
      rw [q] at e'
      rw [mn_le _ _ e'] at nd
      cases nd
    have z := S b u e'
    rw [mn_ne (mn_nep e')] at z ⊢
    rw [upd_ne ndd]
    exact z
  · obtain ⟨a, b, c, e2, f⟩ := hp
    exact ⟨a, b, c, (upd_ne nep.symm).trans e2, f⟩
  · rw [mn_ne nep]
    exact upd_same
theorem words_len {me : Str} (h : me = "small" ∨ me = "great") : (wordsOf me).length ≤ 4 := by
  rcases h with rfl | rfl <;> decide +kernel
theorem words_ok {me : Str} (h : me = "small" ∨ me = "great") : ∀ w ∈ wordsOf me, PyData.strOk w = true ∧ strIn w vLATE = true := by
  rcases h with rfl | rfl <;> decide +kernel
theorem topB_small {x : Wd} {me : Str} {t : Int} (h : me = "small") (a : x.lo ≤ t) (b : t ≤ x.hi) : topB x me (.int t) = true := by
  unfold topB
  rw [if_pos h]
  show (decide (x.lo ≤ t) && decide (t ≤ x.hi)) = true
  rw [decide_eq_true a, decide_eq_true b]
  rfl
theorem topB_great {x : Wd} {me : Str} {t : Int} (h : ¬ me = "small") (a : x.hi + 1 ≤ t) (b : t ≤ x.Hi) : topB x me (.int t) = true := by
  unfold topB
  rw [if_neg h]
  show (decide (x.hi + 1 ≤ t) && decide (t ≤ x.Hi)) = true
  rw [decide_eq_true a, decide_eq_true b]
  rfl
def LatesOk (ts : List (Str × Int)) (ws : List Str) (ls : List Lt) : Prop := ∀ l ∈ ls, (l.1, l.2.1) ∈ ts ∧ l.2.2 ∈ ws
def spAny : Sp := fun vs H Q _ => ∃ (p l : Addr) (n : Nat) (d : V) (x : Wd) (ts : List (Str × Int)), vs = [.ref p, d, .ref l] ∧ Pot H p (n + 13) ∧ WdD (mn p H) d x ∧ IsPrs (mn p H) (.ref l) ts ∧ GoodW x ts ∧
  ∀ (v : V) (H' : Hp) (m : Mrk) (t : Int), Kp p H H' → Pot H' p n → IsMrk (mn p H') v m (.int t) → GoodM x ts m t → Q v H'
theorem ok_any {f : Addr} {fd : FuncData} (F : Fun K "_law_any_mark" "_law_any_mark" s__law_any_mark f fd) (T : Txt mg) (c_of : Cal P w K mg base 2 "_law_of" P__law_of spOf) (c_take : Cal P w K mg base 1 "_law_take" P__law_take spTake) (c_ord : Cal P w K mg base 1 "_law_in_order" P__law_in_order spInOrder) :
    FnOk P w K mg base CX0 3 f fd P__law_any_mark spAny := by
  obtain ⟨f_o, fd_o, G__law_of, b__law_of, g__law_of, k__law_of⟩ := c_of
  obtain ⟨f_t, fd_t, G__law_take, b__law_take, g__law_take, k__law_take⟩ := c_take
  obtain ⟨f_r, fd_r, G__law_in_order, b__law_in_order, g__law_in_order, k__law_in_order⟩ := c_ord
  refine F.ok sc__law_any_mark (fun vs H Q E h => ?_) (fun cdv A outer s H vs Q E hr h => ?_)
  · obtain ⟨p, l, n, d, x, ts, rfl, _⟩ := h
    rfl
  · obtain ⟨p, l, n, d, x, ts, rfl, hp, hd, hl, gw, k⟩ := h
    refine ⟨_, (pss_cons (ps_asg (pe_tup (pa_cons (pe_call G__law_of (hr.mono (by decide)) rfl g__law_of k__law_of b__law_of .nil pass0 (pa_cons (pv 0) (pa_cons (pe_lst (pa_cons pe_str (pa_cons pe_str pa_nil))) pa_nil))) (pa_cons (pe_dget (lt_units hr.units) (pv 1) pe_str (fun _ _ => rfl)) (pa_cons (pe_ix ix_tup (pe_dget (lt_units hr.units) (pv 1) pe_str (fun _ _ => rfl)) pe_int (fun _ _ => rfl)) pa_nil)))) (pg_tup rfl (pgs_cons (pg_name (i := 3) sc__law_any_mark.nd rfl (Or.inl rfl)) (pgs_cons (pg_tup rfl (pgs_cons (pg_name (i := 4) sc__law_any_mark.nd rfl (Or.inl rfl)) (pgs_cons (pg_name (i := 5) sc__law_any_mark.nd rfl (Or.inl rfl)) pgs_nil))) (pgs_cons (pg_name (i := 6) sc__law_any_mark.nd rfl (Or.inl rfl)) pgs_nil)))))
      (pss_cons (ps_set (i := 7) sc__law_any_mark.nd rfl (Or.inl rfl) (pe_ifExp (pt_cmpR op_eq (pv 3) pe_str (nomark _)) (pe_call G__law_of (hr.mono (by decide)) rfl g__law_of k__law_of b__law_of .nil pass0 (pa_cons (pv 0) (pa_cons (pe_lst (pa_cons (pv 4) (pa_cons (pv 5) (pa_cons (pe_op op_add (pv 4) pe_int) pa_nil)))) pa_nil))) (pe_call G__law_of (hr.mono (by decide)) rfl g__law_of k__law_of b__law_of .nil pass0 (pa_cons (pv 0) (pa_cons (pe_lst (pa_cons (pe_op op_add (pv 5) pe_int) (pa_cons (pv 6) (pa_cons (pe_op op_add (pv 5) pe_int) pa_nil)))) pa_nil)))))
      (pss_cons (ps_set (i := 8) sc__law_any_mark.nd rfl (Or.inl rfl) (pe_op op_cat (pe_lst (pa_cons pe_str (pa_cons pe_str (pa_cons pe_str pa_nil)))) (pe_op op_rep (pe_lst (pa_cons pe_str pa_nil)) (pe_callTy call_int1 (by rfl) T.n_int (by decide +kernel) (pa_cons (pe_cmpR op_eq (pv 3) pe_str (nomark _)) pa_nil)))))
      (pss_cons (ps_set (i := 9) sc__law_any_mark.nd rfl (Or.inl rfl) (pe_lst pa_nil))
      (pss_cons (ps_for PassesOwn.never rfl (pi_list (pv 2)) (pg_name (i := 10) sc__law_any_mark.nd rfl (Or.inr rfl)) (pss_one (ps_expr (pe_bm PySem.F.plainAttrs_list PySem.F.slot_list_extend PySem.F.type_list_extend mt_extend (pv 9) (pa_cons (pe_lc (own := [("_law_word", 14)]) (g := gName 14)  rfl sc__law_any_mark.nd (pi_list (pv 8)) (blkOk_by (N := N__law_any_mark) (sc := defScope s__law_any_mark) (by decide +kernel)) (fun _ _ _ _ _ => (pg_name (i := 14) sc__law_any_mark.nd rfl (Or.inl rfl))) (fun _ _ _ _ _ => (pts_one (pt_cmpR op_eq (pe_call G__law_take (hr.mono (by decide)) rfl g__law_take k__law_take b__law_take .nil pass0 (pa_cons (pv 0) (pa_cons pe_int pa_nil))) pe_int (nomark _)))) (fun _ _ _ _ _ => (pe_op (op_catTK (K := K)) (pv 10) (pe_tup (pa_cons (pv 14) pa_nil))))) pa_nil)))))
      (pss_cons (ps_set (i := 11) sc__law_any_mark.nd rfl (Or.inl rfl) (pe_call G__law_of (hr.mono (by decide)) rfl g__law_of k__law_of b__law_of .nil pass0 (pa_cons (pv 0) (pa_cons (pe_lst (pa_cons pe_str (pa_cons pe_str (pa_cons (pe_ifExp (pt_cmpR op_eq (pv 3) pe_str (nomark _)) pe_str pe_str) pa_nil)))) pa_nil))))
      (pss_cons (ps_par (i := 12) (j := 13) rfl sc__law_any_mark.nd rfl rfl (by decide) rfl rfl (pa_cons (pe_call G__law_of (hr.mono (by decide)) rfl g__law_of k__law_of b__law_of .nil pass0 (pa_cons (pv 0) (pa_cons (pe_op op_cat (pe_lst (pa_cons pe_str pa_nil)) (pv 8)) pa_nil))) (pa_cons (pe_call G__law_of (hr.mono (by decide)) rfl g__law_of k__law_of b__law_of .nil pass0 (pa_cons (pv 0) (pa_cons (pe_lst (pa_cons pe_str (pa_cons pe_str (pa_cons pe_str pa_nil)))) pa_nil))) pa_nil)) (by rfl))
      (pss_one (ps_ret (pe_tup (pa_cons (pv 3) (pa_cons (pv 7) (pa_cons (pv 11) (pa_cons (pv 12) (pa_cons (pe_callTy call_tuple_of (by rfl) T.n_tuple (by decide +kernel) (pa_cons (pe_call G__law_in_order (hr.mono (by decide)) rfl g__law_in_order k__law_in_order b__law_in_order .nil pass0 (pa_cons (pv 9) pa_nil)) pa_nil)) (pa_cons (pv 13) pa_nil)))))))))))))))), ?_⟩
    unfold tLc tDGet
    fail "z run"
    intro q1 nn0; generalize hh0 : upd _ q1 _ = A1; obtain ⟨M1, e1, hp⟩ := fr_all hh0 nn0 hp; clear hh0 nn0; fail "z run"
    refine ⟨p, q1, n + 12, _, rfl, hp, mn_nep e1, mn_le _ _ e1, by show 0 < 2; decide, by show 2 ≤ 1000; decide, fun v A2 mem kp hp => ?_⟩
    obtain ⟨me, rfl, hme⟩ : ∃ me : Str, v = .str me ∧ (me = "small" ∨ me = "great") := by
      rcases List.mem_cons.mp mem with rfl | mem
      · exact ⟨_, rfl, .inl rfl⟩
      · rw [List.mem_singleton.mp mem]
        exact ⟨_, rfl, .inr rfl⟩
    have M2 := M1.trans (mn_kp kp)
    have hd := hd.same M2
    have hl := hl.same M2
    clear M1 e1 mem kp
    obtain ⟨dd, vn, vw, vc, vp, rfl, hW, ⟨tn, rfl, hN⟩, ⟨tw, rfl, hWd⟩, _, _⟩ := id hd
    fail "z run"
    refine ⟨dd, _, rfl, wd_narrow (mn_le _ _ hW), ?_⟩
    fail "z run"
    refine ⟨dd, _, rfl, wd_wide (mn_le _ _ hW), ?_⟩
    fail "z run"
    refine rd_ixT (mn_le _ _ hWd) (atI_nat (j := 1) rfl) ?_
    fail "z run"
    intro q2 nn0; generalize hh0 : upd _ q2 _ = A3; obtain ⟨M3, e3, hp⟩ := fr_all hh0 nn0 hp; clear hh0 nn0; fail "z run"
    refine rd_gtup (mn_le _ _ e3) rfl ?_
    fail "z run"
    refine rd_gtup (mn_le _ _ (M3 _ _ hN)) rfl ?_
    have hd := hd.same M3
    have hl := hl.same M3
    have M4 := M2.trans M3
    clear M2 M3 e3 hN hWd hW
    fail "z run"
    rw [dec_str]
    refine rd_ifJ (fun v A4 => Same (mn p A3) (mn p A4) ∧ Pot A4 p (n + 11) ∧ ∃ t : Int, v = .int t ∧ topB x me (.int t) = true) (fun c Q' k' => ?_) (fun c Q' k' => ?_) fun v A4 ⟨M5, hp, t, ev, top⟩ => ?_
    · fail "z run"
      intro q3 nn0; generalize hh0 : upd _ q3 _ = A4; obtain ⟨M5, e5, hp⟩ := fr_all hh0 nn0 hp; clear hh0 nn0; fail "z run"
      refine ⟨p, q3, n + 11, _, rfl, hp, mn_nep e5, mn_le _ _ e5, by show 0 < 3; decide, by show 3 ≤ 1000; decide, fun v A5 mem kp hp => k' _ _ ⟨M5.trans (mn_kp kp), hp, ?_⟩⟩
      have c := of_decide_eq_true c
      have g7 := gw.t7
      rcases List.mem_cons.mp mem with rfl | mem
      · exact ⟨_, rfl, topB_small c (by omega) (by omega)⟩
      · rcases List.mem_cons.mp mem with rfl | mem
        · exact ⟨_, rfl, topB_small c (by omega) (by omega)⟩
        · exact ⟨_, List.mem_singleton.mp mem, topB_small c (by omega) (by omega)⟩
    · fail "z run"
      intro q3 nn0; generalize hh0 : upd _ q3 _ = A4; obtain ⟨M5, e5, hp⟩ := fr_all hh0 nn0 hp; clear hh0 nn0; fail "z run"
      refine ⟨p, q3, n + 11, _, rfl, hp, mn_nep e5, mn_le _ _ e5, by show 0 < 3; decide, by show 3 ≤ 1000; decide, fun v A5 mem kp hp => k' _ _ ⟨M5.trans (mn_kp kp), hp, ?_⟩⟩
      have c := of_decide_eq_false c
      have g7 := gw.t20
      rcases List.mem_cons.mp mem with rfl | mem
      · exact ⟨_, rfl, topB_great c (by omega) (by omega)⟩
      · rcases List.mem_cons.mp mem with rfl | mem
        · exact ⟨_, rfl, topB_great c (by omega) (by omega)⟩
        · exact ⟨_, List.mem_singleton.mp mem, topB_great c (by omega) (by omega)⟩
    · subst ev
      have hl := hl.same M5
      have M6 := M4.trans M5
      clear M4 M5 hd
      fail "z run"
      intro q4 nn0; generalize hh0 : upd _ q4 _ = A5; obtain ⟨M7, e7, hp⟩ := fr_all hh0 nn0 hp; clear hh0 nn0; fail "z run"
      intro q5 nn0; generalize hh0 : upd _ q5 _ = A6; obtain ⟨M8, e8, hp⟩ := fr_all hh0 nn0 hp; clear hh0 nn0; fail "z run"
      show rRep (V.ref q5) _ A6 _
      have sz := sizeLine_eq
      refine ⟨q5, _, _, rfl, rfl, mn_le _ _ e8, by split <;> decide, by split <;> decide, by split <;> (show 1 * _ ≤ _; simp <;> omega), ?_⟩
      intro q6 nn0; generalize hh0 : upd _ q6 _ = A7; obtain ⟨M9, e9, hp⟩ := fr_all hh0 nn0 hp; clear hh0 nn0; fail "z run"
      refine ⟨q4, q6, _, _, rfl, rfl, mn_le _ _ (by fail "z upp"), mn_le _ _ e9, by split <;> simp <;> omega, ?_⟩
      intro q7 nn0; generalize hh0 : upd _ q7 _ = A8; obtain ⟨M10, e10, hp⟩ := fr_all hh0 nn0 hp; clear hh0 nn0; fail "z run"
      have eW : mn p A8 q7 = some (.lst ((wordsOf me).map V.str)) := by
        rw [e10]
        rcases hme with rfl | rfl <;> rfl
      have M11 : Same (mn p A4) (mn p A8) := fun b o e => by fail "z upp"
      have hl := hl.same M11
      have M12 := M6.trans M11
      clear e7 e8 e9 e10 M7 M8 M9 M10 M11 M6
      intro q8 nK
      generalize hh : upd A8 q8 _ = A9
      obtain ⟨M13, eK, hp⟩ := fr_all hh nK hp
      clear hh
      fail "z run"
      have wl := words_len hme
      obtain ⟨l', xl, el, eL, lnl, gl⟩ := id hl
      cases el
      have few2 := gw.few
      with_reducible refine rd_for ?_
      with_reducible refine rd_iL ?_
      fail "z run"
      refine rd_iLa (mn_le _ _ (M13 _ _ eL)) (for_list (K := K) (a := l) (xs := xl) (fun i σ H' => ∃ z y, σ = [some (.ref p), some (.ref dd), some (.ref l), some (.str me), some (.int x.lo), some (.int x.hi), some (.int x.Hi), some (.int t), some (.ref q7), some (.ref q8), z, none, none, none, y] ∧
        Same (mn p A8) (mn p H') ∧ Pot H' p (n + 3 + 4 * (2 - i)) ∧ ∃ xs ls, mn p H' q8 = some (.lst xs) ∧ ALt (mn q8 (mn p H')) xs ls ∧ ls.length ≤ 4 * i ∧ LatesOk ts (wordsOf me) ls) ⟨_, _, rfl, M13, hp, [], [], eK, ⟨rfl, fun i x e h => by cases h⟩, Nat.le_refl _, fun l m => by cases m⟩ (fun i σ H' _ ⟨_, _, _, S, _⟩ => SqL.of (mn_le _ _ (S _ _ eL))) ?_ ?_)
      · rintro i y σ H' hy ⟨z, y14, rfl, S, hp', xs, ls, eXs, aX, lX, okX⟩
        obtain ⟨tt, htt⟩ : ∃ tt, ts[i]? = some tt := ⟨_, List.getElem?_eq_getElem (by rw [← lnl]; exact (List.getElem?_eq_some_iff.mp hy).1)⟩
        have li : i < 2 := by
          rw [← few2]
          exact (List.getElem?_eq_some_iff.mp htt).1
        obtain ⟨b, rfl, hb⟩ := gl i y tt hy htt
        have hb := S _ _ hb
        have eW' := S _ _ eW
        fail "z run"
        refine ⟨Or.inl ⟨rfl, _, SqL.of (mn_le _ _ eXs)⟩, ?_⟩
        fail "z run"
        with_reducible refine rd_iL ?_
        fail "z run"
        refine rd_iLa (mn_le _ _ eW') fun D hD => lc_list (K := K) (xs := (wordsOf me).map V.str) (fun m H4 => Same (mn p H') (mn p H4) ∧ Pot H4 p (n + 3 + 4 * (1 - i) + (4 - m)) ∧ ∃ acc ms, mn p H4 D = some (.lst acc) ∧ ALt (mn D (mn p H4)) acc ms ∧ ms.length ≤ m ∧ LatesOk ts (wordsOf me) ms) ?_ (fun i H3 _ q => SqL.of (mn_le _ _ (q.1 _ _ eW'))) ?_ ?_
        · obtain ⟨a1, a2, a3⟩ := fr_all (o := .lst []) rfl hD hp'
          exact ⟨a1, a3.le (by omega), [], [], a2, ⟨rfl, fun i x e h => by cases h⟩, Nat.le_refl _, fun l m => by cases m⟩
        · rintro m wv H4 hwv ⟨S4, hp4, acc, ms, eA, aA, lA, okA⟩
          obtain ⟨wd, hwd, rfl⟩ : ∃ wd, (wordsOf me)[m]? = some wd ∧ wv = .str wd := by
            rw [List.getElem?_map] at hwv
            cases q : (wordsOf me)[m]? with
            | none => rw [q] at hwv; cases hwv
            | some u =>
              rw [q] at hwv
              exact ⟨u, rfl, (Option.some.inj hwv).symm⟩
          have lm : m < 4 := Nat.lt_of_lt_of_le (List.getElem?_eq_some_iff.mp hwd).1 wl
          fail "z run"
          refine ⟨rfl, ?_⟩
          fail "z run"
          refine ⟨p, n + 3 + 4 * (1 - i) + (4 - (m + 1)), 3, rfl, hp4.le (by omega), by decide, by decide, fun r H5 _ _ kp5 hp5 => ?_⟩
          have S5 := S4.trans (mn_kp kp5)
          have eA5 := mn_kp kp5 _ _ eA
          have aA5 := aA.same (mn_same (mn_kp kp5))
          fail "z run"
          refine rd_iteB (fun c => ?_) (fun c => ?_)
          · fail "z run"
            intro w1 nn0; generalize hh0 : upd _ w1 _ = H6; obtain ⟨N1, d1, hp5⟩ := fr_all hh0 nn0 hp5; clear hh0 nn0; fail "z run"
            have hb5 := S5 _ _ hb
            refine ⟨b, w1, [.str tt.1, .int tt.2], [.str wd], rfl, rfl, SqT.of (mn_le _ _ (N1 _ _ hb5)), SqT.of (mn_le _ _ d1), by simp, by simp; omega, nofun, fun _ => ?_⟩
            intro w2 nn0; generalize hh0 : upd _ w2 _ = H7; obtain ⟨N2, d2, hp5⟩ := fr_all hh0 nn0 hp5; clear hh0 nn0; fail "z run"
            have eA7 := N2 _ _ (N1 _ _ eA5)
            obtain ⟨a1, a2, a3⟩ := put_own (zs := acc ++ [.ref w2]) hD ((S5.trans N1).trans N2) eA7 hp5 rfl
            have lA2 := aA.1
            have A7 := (aA5.same (mn_same N1)).same (mn_same N2)
            have one : IsLt (mn p H7) (.ref w2) (tt.1, tt.2, wd) := ⟨w2, rfl, d2⟩
            refine ⟨acc, mn_le _ _ eA7, by omega, a1, a2, acc ++ [.ref w2], ms ++ [(tt.1, tt.2, wd)], a3, (A7.app (.one (one.mnl eA7))).same mn_put, by rw [List.length_append, List.length_singleton]; omega, fun q mq => ?_⟩
            rcases List.mem_append.mp mq with mq | mq
            · exact okA q mq
            · rw [List.mem_singleton.mp mq]
              exact ⟨List.mem_of_getElem? htt, List.mem_of_getElem? hwd⟩
          · exact ⟨S5, hp5, acc, ms, eA5, aA5, by omega, okA⟩
        · rintro H4 ⟨S4, hp4, acc, ms, eA, aA, lA, okA⟩
          fail "z run"
          rw [List.length_map] at hp4 lA
          have eX4 := S4 _ _ eXs
          have l1 := aX.1
          have l2 := aA.1
          refine ⟨q8, D, xs, acc, rfl, rfl, mn_le _ _ eX4, mn_le _ _ eA, by omega, ?_⟩
          obtain ⟨a1, a2, a3⟩ := put_own (zs := xs ++ acc) nK (S.trans S4) eX4 hp4 rfl
          refine ⟨_, _, rfl, a1, a2.le (by omega), xs ++ acc, ls ++ ms, a3, ((aX.same (mn_same S4)).app ((aA.same mn_le).mnl eX4)).same mn_put, by rw [List.length_append]; omega, fun q mq => ?_⟩
          rcases List.mem_append.mp mq with mq | mq
          · exact okX q mq
          · exact okA q mq
      · rintro σ H' ⟨z, y14, rfl, S, hp, xs, ls, eXs, aX, lX, okX⟩
        rw [lnl, few2] at hp lX
        have eW := S _ _ eW
        have M14 := M12.trans S
        have hp : Pot H' p (n + 3) := hp
        fail "z run"
        rw [dec_str]
        refine rd_ifJ (fun v A => A = H' ∧ ∃ nw : Str, v = .str nw ∧ ((me = "small" ∧ nw = "same") ∨ (me = "great" ∧ nw = "cut"))) (fun c Q' k' => ?_) (fun c Q' k' => ?_) fun v A ⟨eA, nw, ev, hnw⟩ => ?_
        · exact k' _ _ ⟨rfl, _, rfl, .inl ⟨of_decide_eq_true c, rfl⟩⟩
        · refine k' _ _ ⟨rfl, _, rfl, .inr ⟨?_, rfl⟩⟩
          rcases hme with e | e
          · exact absurd e (of_decide_eq_false c)
          · exact e
        subst eA ev
        fail "z run"
        intro r1 nn0; generalize hh0 : upd _ r1 _ = B1; obtain ⟨O1, f1, hp⟩ := fr_all hh0 nn0 hp; clear hh0 nn0; fail "z run"
        refine ⟨p, r1, n + 2, _, rfl, hp, mn_nep f1, mn_le _ _ f1, by show 0 < 3; decide, by show 3 ≤ 1000; decide, fun v B2 mem kp hp => ?_⟩
        obtain ⟨na, rfl, hna⟩ : ∃ na : Str, v = .str na ∧ (na = "none" ∨ na = "old" ∨ (me = "small" ∧ na = "same") ∨ (me = "great" ∧ na = "cut")) := by
          rcases List.mem_cons.mp mem with rfl | mem
          · exact ⟨_, rfl, .inl rfl⟩
          · rcases List.mem_cons.mp mem with rfl | mem
            · exact ⟨_, rfl, .inr (.inl rfl)⟩
            · exact ⟨nw, List.mem_singleton.mp mem, .inr (.inr hnw)⟩
        have O2 := O1.trans (mn_kp kp)
        clear f1 mem kp O1
        fail "z run"
        intro r2 nn0; generalize hh0 : upd _ r2 _ = B3; obtain ⟨O3, f3, hp⟩ := fr_all hh0 nn0 hp; clear hh0 nn0; fail "z run"
        have eW3 := O3 _ _ (O2 _ _ eW)
        refine ⟨r2, q7, _, _, rfl, rfl, mn_le _ _ f3, mn_le _ _ eW3, by rw [List.length_map]; show 1 + _ ≤ _; omega, ?_⟩
        intro r3 nn0; generalize hh0 : upd _ r3 _ = B4; obtain ⟨O4, f4, hp⟩ := fr_all hh0 nn0 hp; clear hh0 nn0; fail "z run"
        refine ⟨p, r3, n + 1, _, rfl, hp, mn_nep f4, mn_le _ _ f4, by simp, by rw [List.length_append, List.length_map]; show 1 + _ ≤ _; omega, fun v B5 mem kp hp => ?_⟩
        obtain ⟨wi, rfl, hwi⟩ : ∃ wi : Str, v = .str wi ∧ (wi = "none" ∨ wi ∈ wordsOf me) := by
          rcases List.mem_append.mp mem with mem | mem
          · exact ⟨_, List.mem_singleton.mp mem, .inl rfl⟩
          · obtain ⟨wi, h1, h2⟩ := List.mem_map.mp mem
            exact ⟨wi, h2.symm, .inr h1⟩
        have O5 := ((O2.trans O3).trans O4).trans (mn_kp kp)
        clear f3 f4 mem kp O2 O3 O4 eW3
        fail "z run"
        intro r4 nn0; generalize hh0 : upd _ r4 _ = B6; obtain ⟨O6, f6, hp⟩ := fr_all hh0 nn0 hp; clear hh0 nn0; fail "z run"
        refine ⟨p, r4, n, _, rfl, hp, mn_nep f6, mn_le _ _ f6, by show 0 < 3; decide, by show 3 ≤ 1000; decide, fun v B7 mem kp hp => ?_⟩
        obtain ⟨vi, rfl, hvi⟩ : ∃ vi : Str, v = .str vi ∧ vi ∈ vVIS := by
          obtain ⟨vi, h1, h2⟩ := List.mem_map.mp (show v ∈ vVIS.map V.str from mem)
          exact ⟨vi, h2.symm, h1⟩
        have O7 := (O5.trans O6).trans (mn_kp kp)
        clear f6 mem kp O5 O6
        fail "z run"
        have aB := (aX.same (mn_same O7)).same (mn_le (p := q8))
        refine ⟨_, ls, rfl, ⟨q8, xs, rfl, mn_le _ _ (O7 _ _ eXs), (aB.same mn_le).1, (aB.same mn_le).2⟩, by omega, fun q m => ⟨gw.so _ (okX q m).1, (words_ok hme _ (okX q m).2).1⟩, fun v8 H8 ms S8 inl pw mem lm => ?_⟩
        have hp := hp.same S8
        obtain ⟨a9, ys, rfl, h9, l9, g9⟩ := inl
        have O8 := O7.trans (mn_same S8)
        fail "z run"
        refine ⟨a9, ys, rfl, .inl ⟨SqL.of h9, ?_⟩⟩
        have A9' : ALt (mn p H8) ys ms := by
          obtain ⟨_, _, _, e, _⟩ := id hp
          exact ALt.mnl ⟨l9, g9⟩ e
        intro s1 nn0; generalize hh0 : upd _ s1 _ = C1; obtain ⟨U1, y1, hp⟩ := fr_all hh0 nn0 hp; clear hh0 nn0; fail "z run"
        intro s2 nn0; generalize hh0 : upd _ s2 _ = C2; obtain ⟨U2, y2, hp⟩ := fr_all hh0 nn0 hp; clear hh0 nn0; fail "z run"
        have A10 := (A9'.same U1).same U2
        refine k _ _ ⟨me, na, wi, vi, ms⟩ t (kp_mn (((M14.trans O8).trans U1).trans U2)) hp ⟨s2, .ref s1, rfl, y2, ⟨s1, ys, rfl, U2 _ _ y1, A10.1, A10.2⟩⟩ ⟨hme, top, hna, hwi, hvi, pw, ?_, fun q m => okX q (mem q m)⟩
        show ms.length ≤ 900
        omega
/-! ### the law: what a drawn mark is -/
theorem strIn_cons (x y : Str) (ys : List Str) : strIn x (y :: ys) = (decide (y = x) || strIn x ys) := by
  unfold strIn inV
  rw [List.map_cons, List.any_cons]
  congr 1
theorem strIn_mem (x : Str) : ∀ xs : List Str, strIn x xs = true ↔ x ∈ xs
  | [] => by
    constructor
    · intro h
      cases h
    · intro h
      cases h
  | y :: ys => by
    rw [strIn_cons, Bool.or_eq_true, decide_eq_true_eq, strIn_mem x ys, List.mem_cons]
    exact ⟨fun h => h.imp Eq.symm id, fun h => h.imp Eq.symm id⟩
theorem strIn_no {x : Str} {xs : List Str} (h : x ∉ xs) : strIn x xs = false := by
  cases q : strIn x xs with
  | false => rfl
  | true => exact absurd ((strIn_mem x xs).mp q) h
theorem small_ne : ¬ (("small" : Str) = "great") := by decide +kernel
theorem no_cut {w : Str} (h : w ∈ vW3) : ¬ ("cut" : Str) = w := by
  intro e
  rw [← e] at h
  exact absurd h (by decide +kernel)
theorem words_small : wordsOf "small" = vW3 := by decide +kernel
theorem words_great : wordsOf "great" = (["same", "old", "far", "cut"] : List Str) := by decide +kernel
theorem GoodM.fine {x : Wd} {ts : List (Str × Int)} {m : Mrk} {t : Int} (h : GoodM x ts m t) : fineB m = true := by
  obtain ⟨me, na, wi, vi, ls⟩ := m
  obtain ⟨h1, h2, h3, h4, h5, h6, h7, h8⟩ := h
  simp only at h1 h3 h4 h8
  unfold fineB
  simp only
  rcases h1 with rfl | rfl
  · rw [if_neg small_ne]
    rw [words_small] at h4 h8
    have n1 : ¬ ("cut" : Str) ∈ [na, wi] := by
      intro h
      rcases List.mem_cons.mp h with e | h
      · rcases h3 with h | h | h | h
        · rw [h] at e
          exact absurd e (by decide +kernel)
        · rw [h] at e
          exact absurd e (by decide +kernel)
        · rw [h.2] at e
          exact absurd e (by decide +kernel)
        · exact absurd h.1 small_ne
      · have e := List.mem_singleton.mp h
        rcases h4 with h | h
        · rw [h] at e
          exact absurd e (by decide +kernel)
        · exact no_cut h e
    have n2 : ¬ ("cut" : Str) ∈ ls.map (·.2.2) := by
      intro h
      obtain ⟨l, m, e⟩ := List.mem_map.mp h
      exact no_cut (h8 l m).2 e.symm
    rw [strIn_no n1, strIn_no n2]
    rfl
  · rw [if_pos rfl]
    have n : ¬ na = "same" := by
      rcases h3 with h | h | h | h
      · rw [h]
        decide +kernel
      · rw [h]
        decide +kernel
      · exact absurd h.1.symm small_ne
      · rw [h.2]
        decide +kernel
    rw [decide_eq_false n]
    rfl
theorem GoodM.mrkP {x : Wd} {ts : List (Str × Int)} {m : Mrk} {t : Int} (h : GoodM x ts m t) (g : GoodW x ts) : MrkP x m := by
  refine ⟨?_, ?_, ?_, ?_, h.few, fun l ml => ?_, ascL_of h.pw⟩
  · rcases h.me with e | e <;> rw [e] <;> decide +kernel
  · rcases h.na with e | e | e | e
    · rw [e]; decide +kernel
    · rw [e]; decide +kernel
    · rw [e.2]; decide +kernel
    · rw [e.2]; decide +kernel
  · rcases h.wi with e | e
    · rw [e]; decide +kernel
    · refine (strIn_mem _ _).mpr ?_
      rcases h.me with q | q
      · rw [q, words_small] at e
        exact (by decide +kernel : ∀ w ∈ vW3, w ∈ vWIDES) _ e
      · rw [q, words_great] at e
        exact (by decide +kernel : ∀ w ∈ (["same", "old", "far", "cut"] : List Str), w ∈ vWIDES) _ e
  · exact (by decide +kernel : ∀ w ∈ vVIS, strIn w vVISITS = true) _ h.vi
  · obtain ⟨h1, h2⟩ := h.ls l ml
    exact g.lt _ h1 _ (words_ok h.me _ h2).2
theorem GoodM.ok {x : Wd} {ts : List (Str × Int)} {m : Mrk} {t : Int} (h : GoodM x ts m t) (g : GoodW x ts) : MrkOk m := by
  refine ⟨?_, ?_, ?_, ?_, fun l ml => ?_⟩
  · rcases h.me with e | e <;> rw [e] <;> decide +kernel
  · rcases h.na with e | e | e | e
    · rw [e]; decide +kernel
    · rw [e]; decide +kernel
    · rw [e.2]; decide +kernel
    · rw [e.2]; decide +kernel
  · rcases h.wi with e | e
    · rw [e]; decide +kernel
    · exact (words_ok h.me _ e).1
  · exact (by decide +kernel : ∀ w ∈ vVIS, PyData.strOk w = true) _ h.vi
  · obtain ⟨h1, h2⟩ := h.ls l ml
    exact ⟨g.so _ h1, (words_ok h.me _ h2).1⟩
theorem GoodM.mkV {x : Wd} {ts : List (Str × Int)} {m : Mrk} {t : Int} {H : Hp} {v : V} (h : GoodM x ts m t) (g : GoodW x ts) (hm : IsMrk H v m (.int t)) : MkV x H v (some (m, t)) := by
  refine ⟨hm, h.mrkP g, h.ok g, ?_⟩
  show (topB x m.me (.int t) && fineB m) = true
  rw [h.top, h.fine]
  rfl
/-! ### the law: its own within -/
theorem cut6a {a b c d e f : V} : cutV [a, b, c, d, e, f] none (some 1) = [a] := rfl
theorem cut6b {a b c d e f : V} : cutV [a, b, c, d, e, f] (some 2) (some 4) = [c, d] := rfl
theorem cut6c {a b c d e f : V} : cutV [a, b, c, d, e, f] (some 5) none = [f] := rfl
theorem fs_all {t : Addr} {H H1 : Hp} {o : HO} (hh : upd H t o = H1) (nn : H t = none) : Same H H1 ∧ H1 t = some o := by
  subst hh
  exact ⟨same_new nn, upd_same⟩
def spOwn : Sp := fun vs H Q _ => ∃ (v v2 : V) (m m2 : Mrk) (t t2 : Int), vs = [v, v2] ∧ IsMrk H v m (.int t) ∧ IsMrk H v2 m2 (.int t2) ∧ MrkOk m ∧ MrkOk m2 ∧ m.ls.length ≤ 900 ∧ ∀ H', Same H H' → Q (.bl (lessB m t m2 t2)) H'
theorem ok_own {f : Addr} {fd : FuncData} (F : Fun K "_law_own_within" "_law_own_within" s__law_own_within f fd) (T : Txt mg) : FnOk P w K mg base CX0 1 f fd P__law_own_within spOwn := by
  refine F.ok sc__law_own_within (fun vs H Q E h => ?_) (fun cdv A outer s H vs Q E hr h => ?_)
  · obtain ⟨v, v2, m, m2, t, t2, rfl, _⟩ := h
    rfl
  · obtain ⟨v, v2, m, m2, t, t2, rfl, h1, h2, ok1, ok2, few, k⟩ := h
    obtain ⟨a, lv, rfl, ha, hl⟩ := id h1
    obtain ⟨a2, lv2, rfl, ha2, hl2⟩ := id h2
    have k : ∀ H', Same H H' → Q (.bl (decide (t ≤ t2) && (decide (kinT m = kinT m2) && m.ls.all fun l => decide (l ∈ m2.ls)))) H' := k
    refine ⟨_, (pss_cons (ps_set (i := 2) sc__law_own_within.nd rfl (Or.inl rfl) (pe_op op_catT (pe_op op_catT (pe_slice sl_tupA (pv 0) po_none (po_some pe_int)) (pe_slice sl_tupA (pv 0) (po_some pe_int) (po_some pe_int))) (pe_slice sl_tupA (pv 0) (po_some pe_int) po_none)))
      (pss_cons (ps_if (PW.pt (pw_or (pt_cmpR (op_neD hr.units) (pv 2) (pe_op op_catT (pe_op op_catT (pe_slice sl_tupA (pv 1) po_none (po_some pe_int)) (pe_slice sl_tupA (pv 1) (po_some pe_int) (po_some pe_int))) (pe_slice sl_tupA (pv 1) (po_some pe_int) po_none)) (nomark _)) (pw_or1 (pt_cmpR op_gt (pe_ix ix_tup (pv 0) pe_int (fun _ _ => rfl)) (pe_ix ix_tup (pv 1) pe_int (fun _ _ => rfl)) (nomark _))))) (pss_one (ps_ret pe_bl)) pss_nil)
      (pss_one (ps_ret (pe_callB (cr_all rfl) (by rfl) T.n_all (by decide +kernel) (pa_cons (pe_lc (own := [("_law_thing", 3)]) (g := gName 3) (tt := tYes) rfl sc__law_own_within.nd (pi_tup (pe_ix (ix_tupK (K := K)) (pv 0) pe_int (fun _ _ => rfl))) (blkOk_by (N := N__law_own_within) (sc := defScope s__law_own_within) (by decide +kernel)) (fun _ _ _ _ _ => (pg_name (i := 3) sc__law_own_within.nd rfl (Or.inl rfl))) (fun _ _ _ _ _ => pts_nil) (fun _ _ _ _ _ => (pe_cmpR (op_inDD (K := K) (hu70 hr)) (pv 3) (pe_ix (ix_tupK (K := K)) (pv 1) pe_int (fun _ _ => rfl)) rfl))) pa_nil)))))), ?_⟩
    unfold tLc tSl tNoPart tPart
    fail "z run"
    refine ⟨1, rfl, ?_⟩
    show rSlA _ (.ref a) none (some 1) _ _
    refine ⟨a, _, rfl, SqT.of (by fail "z upp"), fun wh => absurd wh.2 (by show ¬ ((1 : Nat) = 6); decide), fun _ => ?_⟩
    intro p1 nn0; generalize hh0 : upd _ p1 _ = B1; obtain ⟨SB1, eB1⟩ := fs_all hh0 nn0; clear hh0 nn0
    have eB1 : B1 p1 = some (.tup [.str m.me]) := eB1
    fail "z run"
    refine ⟨2, rfl, ?_⟩
    fail "z run"
    refine ⟨4, rfl, ?_⟩
    show rSlA _ (.ref a) (some 2) (some 4) _ _
    refine ⟨a, _, rfl, SqT.of (by fail "z upp"), fun wh => absurd wh.1 (by show ¬ ((2 : Nat) = 0); decide), fun _ => ?_⟩
    intro p2 nn0; generalize hh0 : upd _ p2 _ = B2; obtain ⟨SB2, eB2⟩ := fs_all hh0 nn0; clear hh0 nn0
    have eB2 : B2 p2 = some (.tup [.str m.na, .str m.wi]) := eB2
    refine ⟨p1, p2, _, _, rfl, rfl, SqT.of (SB2 _ _ eB1), SqT.of eB2, by simp, by rw [sizeLine_eq]; simp, nofun, fun _ => ?_⟩
    intro p3 nn0; generalize hh0 : upd _ p3 _ = B3; obtain ⟨SB3, eB3⟩ := fs_all hh0 nn0; clear hh0 nn0
    fail "z run"
    refine ⟨5, rfl, ?_⟩
    show rSlA _ (.ref a) (some 5) none _ _
    refine ⟨a, _, rfl, SqT.of (by fail "z upp"), fun wh => absurd wh.1 (by show ¬ ((5 : Nat) = 0); decide), fun _ => ?_⟩
    intro p4 nn0; generalize hh0 : upd _ p4 _ = B4; obtain ⟨SB4, eB4⟩ := fs_all hh0 nn0; clear hh0 nn0
    have eB4 : B4 p4 = some (.tup [.str m.vi]) := eB4
    refine ⟨p3, p4, _, _, rfl, rfl, SqT.of (SB4 _ _ eB3), SqT.of eB4, by simp, by rw [sizeLine_eq]; simp, nofun, fun _ => ?_⟩
    intro p5 nn0; generalize hh0 : upd _ p5 _ = B5; obtain ⟨SB5, eB5⟩ := fs_all hh0 nn0; clear hh0 nn0
    have eB5 : B5 p5 = some (.tup [.str m.me, .str m.na, .str m.wi, .str m.vi]) := eB5
    fail "z run"
    refine ⟨1, rfl, ?_⟩
    show rSlA _ (.ref a2) none (some 1) _ _
    refine ⟨a2, _, rfl, SqT.of (by fail "z upp"), fun wh => absurd wh.2 (by show ¬ ((1 : Nat) = 6); decide), fun _ => ?_⟩
    intro r1 nn0; generalize hh0 : upd _ r1 _ = D1; obtain ⟨SD1, eD1⟩ := fs_all hh0 nn0; clear hh0 nn0
    have eD1 : D1 r1 = some (.tup [.str m2.me]) := eD1
    fail "z run"
    refine ⟨2, rfl, ?_⟩
    fail "z run"
    refine ⟨4, rfl, ?_⟩
    show rSlA _ (.ref a2) (some 2) (some 4) _ _
    refine ⟨a2, _, rfl, SqT.of (by fail "z upp"), fun wh => absurd wh.1 (by show ¬ ((2 : Nat) = 0); decide), fun _ => ?_⟩
    intro r2 nn0; generalize hh0 : upd _ r2 _ = D2; obtain ⟨SD2, eD2⟩ := fs_all hh0 nn0; clear hh0 nn0
    have eD2 : D2 r2 = some (.tup [.str m2.na, .str m2.wi]) := eD2
    refine ⟨r1, r2, _, _, rfl, rfl, SqT.of (SD2 _ _ eD1), SqT.of eD2, by simp, by rw [sizeLine_eq]; simp, nofun, fun _ => ?_⟩
    intro r3 nn0; generalize hh0 : upd _ r3 _ = D3; obtain ⟨SD3, eD3⟩ := fs_all hh0 nn0; clear hh0 nn0
    fail "z run"
    refine ⟨5, rfl, ?_⟩
    show rSlA _ (.ref a2) (some 5) none _ _
    refine ⟨a2, _, rfl, SqT.of (by fail "z upp"), fun wh => absurd wh.1 (by show ¬ ((5 : Nat) = 0); decide), fun _ => ?_⟩
    intro r4 nn0; generalize hh0 : upd _ r4 _ = D4; obtain ⟨SD4, eD4⟩ := fs_all hh0 nn0; clear hh0 nn0
    have eD4 : D4 r4 = some (.tup [.str m2.vi]) := eD4
    refine ⟨r3, r4, _, _, rfl, rfl, SqT.of (SD4 _ _ eD3), SqT.of eD4, by simp, by rw [sizeLine_eq]; simp, nofun, fun _ => ?_⟩
    intro r5 nn0; generalize hh0 : upd _ r5 _ = D5; obtain ⟨SD5, eD5⟩ := fs_all hh0 nn0; clear hh0 nn0
    have eD5 : D5 r5 = some (.tup [.str m2.me, .str m2.na, .str m2.wi, .str m2.vi]) := eD5
    fail "z run"
    have dp : Dp K D5 (.ref p5) (kinD m) := .tup (SqT.of (by fail "z upp")) (.cons (.str _) (.cons (.str _) (.cons (.str _) (.cons (.str _) .nil))))
    have dr : Dp K D5 (.ref r5) (kinD m2) := .tup (SqT.of eD5) (.cons (.str _) (.cons (.str _) (.cons (.str _) (.cons (.str _) .nil))))
    have h1 : D5 a = _ := (by fail "z upp" : D5 a = some (.tup [.str m.me, .int t, .str m.na, .str m.wi, lv, .str m.vi]))
    have h2 : D5 a2 = _ := (by fail "z upp" : D5 a2 = some (.tup [.str m2.me, .int t2, .str m2.na, .str m2.wi, lv2, .str m2.vi]))
    have S5 : Same H D5 := fun b o e => by fail "z upp"
    refine ⟨_, _, dp, dr, kinD_shaped ok1, kinD_shaped ok2, ?_⟩
    rw [kinD_eqv]
    fail "z run"
    refine rd_iteB (fun c => ?_) (fun c => ?_)
    · fail "z run"
      have z := k _ S5
      rw [nb c, Bool.false_and, Bool.and_false] at z
      exact z
    rw [nb' c, Bool.true_and] at k
    fail "z run"
    refine rd_iteB (fun c => ?_) (fun c => ?_)
    · fail "z run"
      have z := k _ S5
      rw [decide_eq_false (by have := of_decide_eq_true c; omega), Bool.false_and] at z
      exact z
    rw [decide_eq_true (by have := of_decide_eq_false c; omega), Bool.true_and] at k
    have hl := IsLts.same hl S5
    have hl2 := IsLts.same hl2 S5
    obtain ⟨al, xs, rfl, hal, ln, g⟩ := id hl
    fail "z run"
    with_reducible refine rd_iT ?_
    fail "z run"
    refine rd_ixT h1 (atI_nat (j := 4) rfl) ?_
    fail "z run"
    refine rd_iTa hal fun D hD => lc_tupV (K := K) (l := m.ls) (fun l => V.bl (decide (l ∈ m2.ls))) (SqT.of hal) hD ln (by omega) ?_ ?_
    · intro i y l H3 Q' hy hl' S kq
      fail "z run"
      refine ⟨rfl, ?_⟩
      fail "z run"
      refine rd_ixT (S _ _ h2) (atI_nat (j := 4) rfl) ?_
      refine ⟨_, _, ((g i y l hy hl').same S).dp, IsLts.dp (IsLts.same hl2 S), lateD_shaped (ok1.2.2.2.2 l (List.mem_of_getElem? hl')), lateDs_shaped ok2.2.2.2.2, ?_⟩
      rw [lateDs_any]
      exact kq _ (Same.refl _)
    intro H3 S3 hL
    fail "z run"
    refine all_of hL ?_
    exact k _ (S5.trans S3)
/-! ### the law: marks near others -/
theorem cutV_whole {xs : List V} {lo hi : Option Int} (h : HT.sIx xs.length 0 lo = 0 ∧ HT.sIx xs.length xs.length hi = xs.length) : cutV xs lo hi = xs := by
  unfold cutV
  rw [h.1, h.2, List.drop_zero, Nat.sub_zero, List.take_length]
theorem rd_slA {K : PySem.W.Frag} {a : Addr} {xs : List V} {lo hi : Option Int} {H : Hp} {Q : VK} (h : H a = some (.tup xs)) (k : ∀ r H', Same H H' → H' r = some (.tup (cutV xs lo hi)) → Q (.ref r) H') : rSlA K (.ref a) lo hi H Q :=
  ⟨a, xs, rfl, SqT.of h, fun wh => k a H (Same.refl H) (by rw [cutV_whole wh]; exact h), fun _ p np => k p _ (same_new np) upd_same⟩
theorem rd_catA {K : PySem.W.Frag} {a b : Addr} {xs ys : List V} {H : Hp} {Q : VK} (ha : H a = some (.tup xs)) (hb : H b = some (.tup ys)) (l : xs.length + ys.length ≤ sizeLine) (k : ∀ r H', Same H H' → H' r = some (.tup (xs ++ ys)) → Q (.ref r) H') : rCatA K (.ref a) (.ref b) H Q :=
  ⟨a, b, xs, ys, rfl, rfl, SqT.of ha, SqT.of hb, l, fun e => k b H (Same.refl H) (by rw [e]; exact hb), fun _ e => k a H (Same.refl H) (by rw [e, List.append_nil]; exact ha), fun _ _ p np => k p _ (same_new np) upd_same⟩
theorem rd_dget {td ty : TE} {σ : L2.St} {H : Hp} {Q : VK} (k : td σ H fun x H1 => ty σ H1 fun y H2 => ∃ a v, x = .ref a ∧ DGet H2 a y (some v) ∧ Q v H2) : tDGet td ty σ H Q := k
theorem mn_at {p a : Addr} {H : Hp} {xs : List V} {n : Nat} (h : H a = some (.tup xs)) (hp : Pot H p n) : mn p H a = some (.tup xs) := by
  obtain ⟨_, _, _, e, _⟩ := hp
  exact mn_tl h e
theorem cut_dropN {xs : List V} {n : Nat} : cutV xs (some (n : Int)) none = xs.drop n := by
  by_cases h : n ≤ xs.length
  · exact cut_drop h
  · unfold cutV
    have e : HT.sIx xs.length 0 (some (n : Int)) = xs.length := by
      rw [HT.sIx_nat]
      omega
    rw [e, List.drop_length, List.take_nil, List.drop_eq_nil_of_le (by omega)]
theorem less_one {α : Type} (ls : List α) (k : Nat) : List.Sublist (ls.take k ++ ls.drop (k + 1)) ls := by
  have e := List.take_append_drop k ls
  have h : List.Sublist (ls.drop (k + 1)) (ls.drop k) := by
    rw [← List.drop_drop]
    exact List.drop_sublist _ _
  have z := (List.Sublist.refl (ls.take k)).append h
  rw [e] at z
  exact z
theorem words_w3 {me w : Str} (h : w ∈ vW3) : w ∈ wordsOf me := List.mem_append_left _ h
def spNear : Sp := fun vs H Q _ => ∃ (p l : Addr) (n : Nat) (d v : V) (x : Wd) (ts : List (Str × Int)) (m : Mrk) (t : Int), vs = [.ref p, d, .ref l, v] ∧ Pot H p (n + 15) ∧ WdD (mn p H) d x ∧ IsPrs (mn p H) (.ref l) ts ∧ GoodW x ts ∧ IsMrk (mn p H) v m (.int t) ∧ GoodM x ts m t ∧
  ∀ (v : V) (H' : Hp) (m : Mrk) (t : Int), Kp p H H' → Pot H' p n → IsMrk (mn p H') v m (.int t) → GoodM x ts m t → Q v H'
theorem ok_near {f : Addr} {fd : FuncData} (F : Fun K "_law_near" "_law_near" s__law_near f fd) (T : Txt mg) (c_of : Cal P w K mg base 2 "_law_of" P__law_of spOf) (c_take : Cal P w K mg base 1 "_law_take" P__law_take spTake) (c_any : Cal P w K mg base 3 "_law_any_mark" P__law_any_mark spAny) :
    FnOk P w K mg base CX0 4 f fd P__law_near spNear := by
  obtain ⟨f_o, fd_o, G__law_of, b__law_of, g__law_of, k__law_of⟩ := c_of
  obtain ⟨f_t, fd_t, G__law_take, b__law_take, g__law_take, k__law_take⟩ := c_take
  obtain ⟨f_a, fd_a, G__law_any_mark, b__law_any_mark, g__law_any_mark, k__law_any_mark⟩ := c_any
  refine F.ok sc__law_near (fun vs H Q E h => ?_) (fun cdv A outer s H vs Q E hr h => ?_)
  · obtain ⟨p, l, n, d, v, x, ts, m, t, rfl, _⟩ := h
    rfl
  · obtain ⟨p, l, n, d, v, x, ts, m, t, rfl, hp, hd, hl, gw, hm, gm, k⟩ := h
    refine ⟨_, (pss_cons (ps_par (i := 4) (j := 5) rfl sc__law_near.nd rfl rfl (by decide) rfl rfl (pa_cons (pe_call G__law_take (hr.mono (by decide)) rfl g__law_take k__law_take b__law_take .nil pass0 (pa_cons (pv 0) (pa_cons pe_int pa_nil))) (pa_cons (pe_call G__law_any_mark (hr.mono (by decide)) rfl g__law_any_mark k__law_any_mark b__law_any_mark .nil pass0 (pa_cons (pv 0) (pa_cons (pv 1) (pa_cons (pv 2) pa_nil)))) pa_nil)) (by rfl))
      (pss_cons (ps_if (pt_cmpR op_eq (pv 4) pe_int (nomark _)) (pss_one (ps_ret (pv 5))) pss_nil)
      (pss_cons (ps_if (pt_cmpR op_lt (pv 4) pe_int (nomark _)) (pss_cons (ps_asg (pe_ifExp (pt_cmpR op_eq (pe_ix ix_tup (pv 3) pe_int (fun _ _ => rfl)) pe_str (nomark _)) (pe_dget (lt_units hr.units) (pv 1) pe_str (fun _ _ => rfl)) (pe_tup (pa_cons (pe_op op_add (pe_ix ix_tup (pe_dget (lt_units hr.units) (pv 1) pe_str (fun _ _ => rfl)) pe_int (fun _ _ => rfl)) pe_int) (pa_cons (pe_ix ix_tup (pe_dget (lt_units hr.units) (pv 1) pe_str (fun _ _ => rfl)) pe_int (fun _ _ => rfl)) pa_nil)))) (pg_tup rfl (pgs_cons (pg_name (i := 6) sc__law_near.nd rfl (Or.inl rfl)) (pgs_cons (pg_name (i := 7) sc__law_near.nd rfl (Or.inl rfl)) pgs_nil))))
      (pss_cons (ps_set (i := 8) sc__law_near.nd rfl (Or.inl rfl) (pe_op op_add (pe_ix ix_tup (pv 3) pe_int (fun _ _ => rfl)) (pe_call G__law_of (hr.mono (by decide)) rfl g__law_of k__law_of b__law_of .nil pass0 (pa_cons (pv 0) (pa_cons (pe_lst (pa_cons (pe_un un_neg pe_int) (pa_cons pe_int (pa_cons (pe_un un_neg pe_int) (pa_cons pe_int (pa_cons pe_int pa_nil)))))) pa_nil)))))
      (pss_one (ps_ret (pe_op op_catA (pe_op op_catA (pe_slice sl_tupA (pv 3) po_none (po_some pe_int)) (pe_tup (pa_cons (pe_callB (call_min2 rfl) (by rfl) T.n_min (by decide +kernel) (pa_cons (pe_callTy call_int1 (by rfl) T.n_int (by decide +kernel) (pa_cons (pv 7) pa_nil)) (pa_cons (pe_callB (call_max2 rfl) (by rfl) T.n_max (by decide +kernel) (pa_cons (pe_callTy call_int1 (by rfl) T.n_int (by decide +kernel) (pa_cons (pv 6) pa_nil)) (pa_cons (pe_callTy call_int1 (by rfl) T.n_int (by decide +kernel) (pa_cons (pv 8) pa_nil)) pa_nil))) pa_nil))) pa_nil))) (pe_slice sl_tupA (pv 3) (po_some pe_int) po_none)))))) pss_nil)
      (pss_cons (ps_if (pt_cmpR op_lt (pv 4) pe_int (nomark _)) (pss_cons (ps_set (i := 9) sc__law_near.nd rfl (Or.inl rfl) (pe_call G__law_take (hr.mono (by decide)) rfl g__law_take k__law_take b__law_take .nil pass0 (pa_cons (pv 0) (pa_cons (pe_op op_add (pe_callB call_len_seq (by rfl) T.n_len (by decide +kernel) (pa_cons (pe_ix ix_tup (pv 3) pe_int (fun _ _ => rfl)) pa_nil)) pe_int) pa_nil))))
      (pss_one (ps_ret (pe_op op_catA (pe_op op_catA (pe_slice sl_tupA (pv 3) po_none (po_some pe_int)) (pe_tup (pa_cons (pe_op op_catA (pe_slice sl_tupA (pe_ix ix_tup (pv 3) pe_int (fun _ _ => rfl)) po_none (po_some (pv 9))) (pe_slice sl_tupA (pe_ix ix_tup (pv 3) pe_int (fun _ _ => rfl)) (po_some (pe_op op_add (pv 9) pe_int)) po_none)) pa_nil))) (pe_slice sl_tupA (pv 3) (po_some pe_int) po_none))))) pss_nil)
      (pss_cons (ps_if (pt_cmpR op_eq (pv 4) pe_int (nomark _)) (pss_one (ps_ret (pe_op op_catA (pe_slice sl_tupA (pv 3) po_none (po_some pe_int)) (pe_tup (pa_cons (pe_call G__law_of (hr.mono (by decide)) rfl g__law_of k__law_of b__law_of .nil pass0 (pa_cons (pv 0) (pa_cons (pe_lst (pa_cons pe_str (pa_cons pe_str (pa_cons pe_str pa_nil)))) pa_nil))) pa_nil))))) pss_nil)
      (pss_one (ps_ret (pe_op op_catA (pe_op op_catA (pe_slice sl_tupA (pv 3) po_none (po_some pe_int)) (pe_tup (pa_cons (pe_call G__law_of (hr.mono (by decide)) rfl g__law_of k__law_of b__law_of .nil pass0 (pa_cons (pv 0) (pa_cons (pe_lst (pa_cons pe_str (pa_cons pe_str (pa_cons pe_str (pa_cons pe_str pa_nil))))) pa_nil))) pa_nil))) (pe_slice sl_tupA (pv 3) (po_some pe_int) po_none))))))))), ?_⟩
    unfold tSl tNoPart tPart
    fail "z run"
    refine ⟨p, n + 14, 8, rfl, hp, by decide, by decide, fun r A1 _ _ kp hp => ?_⟩
    have M1 := mn_kp kp
    have hd := hd.same M1
    have hl := hl.same M1
    have hm := hm.same M1
    fail "z run"
    refine ⟨p, l, n + 1, d, x, ts, rfl, hp, hd, hl, gw, fun v2 A2 m2 t2 kp2 hp hm2 gm2 => ?_⟩
    have M2 := mn_kp kp2
    have hd := hd.same M2
    have hl := hl.same M2
    have hm := hm.same M2
    have M3 := M1.trans M2
    clear M1 M2 kp kp2
    fail "z run"
    refine rd_iteB (fun c => ?_) (fun c => ?_)
    · fail "z run"
      exact k _ _ m2 t2 (kp_mn M3) (hp.le (by omega)) hm2 gm2
    obtain ⟨a, lv, rfl, ha, hls⟩ := id hm
    fail "z run"
    refine rd_iteB (fun c => ?_) (fun c => ?_)
    · fail "z run"
      refine rd_ixT (mn_le _ _ ha) (atI_nat (j := 0) rfl) ?_
      fail "z run"
      rw [dec_str]
      obtain ⟨dd, vn, vw, vc, vp, rfl, hW, ⟨tn, rfl, hN⟩, ⟨tw, rfl, hWd⟩, _, _⟩ := id hd
      have g7 := gw.t7
      have g20 := gw.t20
      refine rd_ifJ (fun v A => Same (mn p A2) (mn p A) ∧ Pot A p (n + 1) ∧ ∃ (tk : Addr) (L U : Int), v = .ref tk ∧ mn p A tk = some (.tup [.int L, .int U]) ∧ L ≤ U ∧ ∀ q, L ≤ q → q ≤ U → topB x m.me (.int q) = true) (fun c Q' k' => ?_) (fun c Q' k' => ?_) fun v A3 ⟨M4, hp, tk, L, U, ev, ek, LU, top⟩ => ?_
      · refine rd_dget ?_
        fail "z run"
        exact ⟨dd, _, rfl, wd_narrow (mn_le _ _ hW), k' _ _ ⟨Same.refl _, hp, tn, x.lo, x.hi, rfl, hN, by omega, fun q h1 h2 => topB_small (of_decide_eq_true c) h1 h2⟩⟩
      · fail "z run"
        refine rd_dget ?_
        fail "z run"
        refine ⟨dd, _, rfl, wd_narrow (mn_le _ _ hW), ?_⟩
        fail "z run"
        refine rd_ixT (mn_le _ _ hN) (atI_nat (j := 1) rfl) ?_
        fail "z run"
        refine rd_dget ?_
        fail "z run"
        refine ⟨dd, _, rfl, wd_wide (mn_le _ _ hW), ?_⟩
        fail "z run"
        refine rd_ixT (mn_le _ _ hWd) (atI_nat (j := 1) rfl) ?_
        fail "z run"
        intro q1 nn0; generalize hh0 : upd _ q1 _ = B1; obtain ⟨N1, e1, hp⟩ := fr_all hh0 nn0 hp; clear hh0 nn0; fail "z run"
        exact k' _ _ ⟨N1, hp, q1, _, _, rfl, e1, by omega, fun q h1 h2 => topB_great (of_decide_eq_false c) h1 h2⟩
      subst ev
      have M5 := M3.trans M4
      have ha := M4 _ _ ha
      have hls := IsLts.same hls M4
      clear M3 M4 hd hl hm
      fail "z run"
      refine rd_gtup (mn_le _ _ ek) rfl ?_
      fail "z run"
      refine rd_ixT (mn_le _ _ ha) (atI_nat (j := 1) rfl) ?_
      fail "z run"
      intro q2 nn0; generalize hh0 : upd _ q2 _ = A4; obtain ⟨M6, e6, hp⟩ := fr_all hh0 nn0 hp; clear hh0 nn0; fail "z run"
      refine ⟨p, q2, n, _, rfl, hp, mn_nep e6, mn_le _ _ e6, by show 0 < 5; decide, by show 5 ≤ 1000; decide, fun v A5 mem kp hp => ?_⟩
      obtain ⟨dz, rfl⟩ : ∃ dz : Int, v = .int dz := by
        obtain ⟨dz, h1, h2⟩ := List.mem_map.mp (show v ∈ ([-1, 1, -7, 7, 0] : List Int).map V.int from mem)
        exact ⟨dz, h2.symm⟩
      have M7 := M6.trans (mn_kp kp)
      have M8 := M5.trans M7
      have ha := M7 _ _ ha
      have hls := IsLts.same hls M7
      clear e6 mem kp M5 M6 M7 ek
      fail "z run"
      refine ⟨1, rfl, ?_⟩
      show rSlA _ (.ref a) none (some 1) _ _
      refine rd_slA (mn_le _ _ ha) fun r1 B1 S1 e1 => ?_
      have hp := hp.same S1
      have N1 := mn_same (p := p) S1
      have e1 : mn p B1 r1 = some (.tup [.str m.me]) := mn_at e1 hp
      fail "z run"
      intro r2 nn0; generalize hh0 : upd _ r2 _ = B2; obtain ⟨N2, e2, hp⟩ := fr_all hh0 nn0 hp; clear hh0 nn0; fail "z run"
      refine rd_catA (mn_le _ _ (N2 _ _ e1)) (mn_le _ _ e2) (by rw [sizeLine_eq]; simp) fun r3 B3 S3 e3 => ?_
      have hp := hp.same S3
      have N3 := mn_same (p := p) S3
      have e3 := mn_at e3 hp
      fail "z run"
      refine ⟨2, rfl, ?_⟩
      show rSlA _ (.ref a) (some 2) none _ _
      refine rd_slA (mn_le _ _ (by fail "z upp" : mn p B3 a = _)) fun r4 B4 S4 e4 => ?_
      have hp := hp.same S4
      have N4 := mn_same (p := p) S4
      have e4 : mn p B4 r4 = some (.tup [.str m.na, .str m.wi, lv, .str m.vi]) := mn_at e4 hp
      fail "z run"
      refine rd_catA (mn_le _ _ (N4 _ _ e3)) (mn_le _ _ e4) (by rw [sizeLine_eq]; simp) fun r5 B5 S5 e5 => ?_
      have hp := hp.same S5
      have N5 := mn_same (p := p) S5
      have e5 := mn_at e5 hp
      have N15 := (((N1.trans N2).trans N3).trans N4).trans N5
      refine k _ _ m _ (kp_mn (M8.trans N15)) hp ⟨r5, lv, rfl, e5, IsLts.same hls N15⟩ ⟨gm.me, top _ ?_ ?_, gm.na, gm.wi, gm.vi, gm.pw, gm.few, gm.ls⟩
      · split
        · split <;> omega
        · omega
      · split
        · omega
        · omega
    fail "z run"
    refine rd_iteB (fun c => ?_) (fun c => ?_)
    · fail "z run"
      obtain ⟨al, xl, rfl, hal, lnl, gl⟩ := id hls
      have AL : ALt (mn p A2) xl m.ls := ⟨lnl, gl⟩
      have few := gm.few
      refine rd_ixT (mn_le _ _ ha) (atI_nat (j := 4) rfl) ?_
      fail "z run"
      refine ⟨al, xl, rfl, .inr (SqT.of (mn_le _ _ hal)), ?_⟩
      fail "z run"
      refine ⟨p, n, (xl.length : Nat) + 1, rfl, hp, by omega, by omega, fun rr A3 rr0 rr1 kp hp => ?_⟩
      obtain ⟨kk, rfl⟩ : ∃ kk : Nat, rr = kk := ⟨rr.toNat, by omega⟩
      have lk : kk ≤ xl.length := by omega
      have M4 := mn_kp kp
      have ha := M4 _ _ ha
      have hal := M4 _ _ hal
      have AL := AL.same M4
      have M5 := M3.trans M4
      clear M3 M4 kp hls hm hl hd
      fail "z run"
      refine ⟨4, rfl, ?_⟩
      show rSlA _ (.ref a) none (some 4) _ _
      refine rd_slA (mn_le _ _ ha) fun r1 B1 S1 e1 => ?_
      have hp := hp.same S1
      have N1 := mn_same (p := p) S1
      have e1 : mn p B1 r1 = some (.tup [.str m.me, .int t, .str m.na, .str m.wi]) := mn_at e1 hp
      fail "z run"
      refine rd_ixT (mn_le _ _ (by fail "z upp" : mn p B1 a = _)) (atI_nat (j := 4) rfl) ?_
      fail "z run"
      refine ⟨(kk : Int), rfl, ?_⟩
      show rSlA _ (.ref al) none (some (kk : Int)) _ _
      refine rd_slA (mn_le _ _ (by fail "z upp" : mn p B1 al = _)) fun r2 B2 S2 e2 => ?_
      have hp := hp.same S2
      have N2 := mn_same (p := p) S2
      rw [cut_take lk] at e2
      have e2 := mn_at e2 hp
      fail "z run"
      refine rd_ixT (mn_le _ _ (by fail "z upp" : mn p B2 a = _)) (atI_nat (j := 4) rfl) ?_
      fail "z run"
      refine ⟨((kk + 1 : Nat) : Int), rfl, ?_⟩
      show rSlA _ (.ref al) (some ((kk + 1 : Nat) : Int)) none _ _
      refine rd_slA (mn_le _ _ (by fail "z upp" : mn p B2 al = _)) fun r3 B3 S3 e3 => ?_
      have hp := hp.same S3
      have N3 := mn_same (p := p) S3
      rw [cut_dropN] at e3
      have e3 := mn_at e3 hp
      fail "z run"
      refine rd_catA (mn_le _ _ (N3 _ _ e2)) (mn_le _ _ e3) (by rw [sizeLine_eq, List.length_take, List.length_drop]; omega) fun r4 B4 S4 e4 => ?_
      have hp := hp.same S4
      have N4 := mn_same (p := p) S4
      have e4 := mn_at e4 hp
      fail "z run"
      intro r5 nn0; generalize hh0 : upd _ r5 _ = B5; obtain ⟨N5, e5, hp⟩ := fr_all hh0 nn0 hp; clear hh0 nn0; fail "z run"
      refine rd_catA (mn_le _ _ (by fail "z upp" : mn p B5 r1 = _)) (mn_le _ _ e5) (by rw [sizeLine_eq]; simp) fun r6 B6 S6 e6 => ?_
      have hp := hp.same S6
      have N6 := mn_same (p := p) S6
      have e6 := mn_at e6 hp
      fail "z run"
      refine ⟨5, rfl, ?_⟩
      show rSlA _ (.ref a) (some 5) none _ _
      refine rd_slA (mn_le _ _ (by fail "z upp" : mn p B6 a = _)) fun r7 B7 S7 e7 => ?_
      have hp := hp.same S7
      have N7 := mn_same (p := p) S7
      have e7 : mn p B7 r7 = some (.tup [.str m.vi]) := mn_at e7 hp
      fail "z run"
      refine rd_catA (mn_le _ _ (N7 _ _ e6)) (mn_le _ _ e7) (by rw [sizeLine_eq]; simp) fun r8 B8 S8 e8 => ?_
      have hp := hp.same S8
      have N8 := mn_same (p := p) S8
      have e8 := mn_at e8 hp
      have e48 : mn p B8 r4 = some (.tup (xl.take kk ++ xl.drop (kk + 1))) := by fail "z upp"
      have N18 : Same (mn p A3) (mn p B8) := fun b o e => by fail "z upp"
      have AL := AL.same N18
      have AN := (AL.take kk).app (AL.drop (kk + 1))
      have sub := less_one m.ls kk
      have sl := sub.length_le
      exact k _ _ ⟨m.me, m.na, m.wi, m.vi, m.ls.take kk ++ m.ls.drop (kk + 1)⟩ t (kp_mn (M5.trans N18)) hp ⟨r8, .ref r4, rfl, e8, ⟨r4, _, rfl, e48, AN.1, AN.2⟩⟩ ⟨gm.me, gm.top, gm.na, gm.wi, gm.vi, gm.pw.sublist sub, Nat.le_trans sl few, fun l ml => gm.ls l (sub.subset ml)⟩
    fail "z run"
    refine rd_iteB (fun c => ?_) (fun c => ?_)
    · fail "z run"
      refine ⟨5, rfl, ?_⟩
      show rSlA _ (.ref a) none (some 5) _ _
      refine rd_slA (mn_le _ _ ha) fun r1 B1 S1 e1 => ?_
      have hp := hp.same S1
      have N1 := mn_same (p := p) S1
      have e1 : mn p B1 r1 = some (.tup [.str m.me, .int t, .str m.na, .str m.wi, lv]) := mn_at e1 hp
      fail "z run"
      intro q1 nn0; generalize hh0 : upd _ q1 _ = B2; obtain ⟨N2, f2, hp⟩ := fr_all hh0 nn0 hp; clear hh0 nn0; fail "z run"
      refine ⟨p, q1, n, _, rfl, hp, mn_nep f2, mn_le _ _ f2, by show 0 < 3; decide, by show 3 ≤ 1000; decide, fun v B3 mem kp hp => ?_⟩
      obtain ⟨vi, rfl, hvi⟩ : ∃ vi : Str, v = .str vi ∧ vi ∈ vVIS := by
        obtain ⟨vi, h1, h2⟩ := List.mem_map.mp (show v ∈ vVIS.map V.str from mem)
        exact ⟨vi, h2.symm, h1⟩
      have N3 := mn_kp kp
      fail "z run"
      intro r4 nn0; generalize hh0 : upd _ r4 _ = B4; obtain ⟨N4, e4, hp⟩ := fr_all hh0 nn0 hp; clear hh0 nn0; fail "z run"
      refine rd_catA (mn_le _ _ (by fail "z upp" : mn p B4 r1 = _)) (mn_le _ _ e4) (by rw [sizeLine_eq]; simp) fun r6 B6 S6 e6 => ?_
      have hp := hp.same S6
      have N6 := mn_same (p := p) S6
      have e6 := mn_at e6 hp
      have N16 := (((N1.trans N2).trans N3).trans N4).trans N6
      exact k _ _ ⟨m.me, m.na, m.wi, vi, m.ls⟩ t (kp_mn (M3.trans N16)) hp ⟨r6, lv, rfl, e6, IsLts.same hls N16⟩ ⟨gm.me, gm.top, gm.na, gm.wi, hvi, gm.pw, gm.few, gm.ls⟩
    fail "z run"
    refine ⟨3, rfl, ?_⟩
    show rSlA _ (.ref a) none (some 3) _ _
    refine rd_slA (mn_le _ _ ha) fun r1 B1 S1 e1 => ?_
    have hp := hp.same S1
    have N1 := mn_same (p := p) S1
    have e1 : mn p B1 r1 = some (.tup [.str m.me, .int t, .str m.na]) := mn_at e1 hp
    fail "z run"
    intro q1 nn0; generalize hh0 : upd _ q1 _ = B2; obtain ⟨N2, f2, hp⟩ := fr_all hh0 nn0 hp; clear hh0 nn0; fail "z run"
    refine ⟨p, q1, n, _, rfl, hp, mn_nep f2, mn_le _ _ f2, by show 0 < 4; decide, by show 4 ≤ 1000; decide, fun v B3 mem kp hp => ?_⟩
    obtain ⟨wi, rfl, hwi⟩ : ∃ wi : Str, v = .str wi ∧ (wi = "none" ∨ wi ∈ wordsOf m.me) := by
      rcases List.mem_cons.mp mem with rfl | mem
      · exact ⟨_, rfl, .inl rfl⟩
      · obtain ⟨wi, h1, h2⟩ := List.mem_map.mp (show v ∈ vW3.map V.str from mem)
        exact ⟨wi, h2.symm, .inr (words_w3 h1)⟩
    have N3 := mn_kp kp
    fail "z run"
    intro r4 nn0; generalize hh0 : upd _ r4 _ = B4; obtain ⟨N4, e4, hp⟩ := fr_all hh0 nn0 hp; clear hh0 nn0; fail "z run"
    refine rd_catA (mn_le _ _ (by fail "z upp" : mn p B4 r1 = _)) (mn_le _ _ e4) (by rw [sizeLine_eq]; simp) fun r6 B6 S6 e6 => ?_
    have hp := hp.same S6
    have N6 := mn_same (p := p) S6
    have e6 := mn_at e6 hp
    fail "z run"
    refine ⟨4, rfl, ?_⟩
    show rSlA _ (.ref a) (some 4) none _ _
    refine rd_slA (mn_le _ _ (by fail "z upp" : mn p B6 a = _)) fun r7 B7 S7 e7 => ?_
    have hp := hp.same S7
    have N7 := mn_same (p := p) S7
    have e7 : mn p B7 r7 = some (.tup [lv, .str m.vi]) := mn_at e7 hp
    fail "z run"
    refine rd_catA (mn_le _ _ (N7 _ _ e6)) (mn_le _ _ e7) (by rw [sizeLine_eq]; simp) fun r8 B8 S8 e8 => ?_
    have hp := hp.same S8
    have N8 := mn_same (p := p) S8
    have e8 := mn_at e8 hp
    have N18 := (((((N1.trans N2).trans N3).trans N4).trans N6).trans N7).trans N8
    exact k _ _ ⟨m.me, m.na, wi, m.vi, m.ls⟩ t (kp_mn (M3.trans N18)) hp ⟨r8, lv, rfl, e8, IsLts.same hls N18⟩ ⟨gm.me, gm.top, gm.na, hwi, gm.vi, gm.pw, gm.few, gm.ls⟩
/-! ### the law -/
theorem sorted_eq : ∀ {ls ms : List Lt}, ls.Pairwise LL → ms.Pairwise LL → (∀ l ∈ ls, l ∈ ms) → (∀ l ∈ ms, l ∈ ls) → ls = ms
  | [], [], _, _, _, _ => rfl
  | [], b :: s, _, _, _, h => by cases h b List.mem_cons_self
  | a :: r, [], _, _, h, _ => by cases h a List.mem_cons_self
  | a :: r, b :: s, p, q, h, g => by
    obtain ⟨p1, p2⟩ := List.pairwise_cons.mp p
    obtain ⟨q1, q2⟩ := List.pairwise_cons.mp q
    have e : a = b := by
      rcases List.mem_cons.mp (h a List.mem_cons_self) with e | m1
      · exact e
      · rcases List.mem_cons.mp (g b List.mem_cons_self) with e | m2
        · exact e.symm
        · exact absurd (ll_trans (p1 b m2) (q1 a m1)) (ll_irrefl a)
    subst e
    have f1 : ∀ l ∈ r, l ∈ s := fun l m => by
      rcases List.mem_cons.mp (h l (List.mem_cons_of_mem _ m)) with e | m'
      · rw [e] at m
        exact absurd (p1 a m) (ll_irrefl a)
      · exact m'
    have f2 : ∀ l ∈ s, l ∈ r := fun l m => by
      rcases List.mem_cons.mp (g l (List.mem_cons_of_mem _ m)) with e | m'
      · rw [e] at m
        exact absurd (q1 a m) (ll_irrefl a)
      · exact m'
    rw [sorted_eq p2 q2 f1 f2]
theorem lessB_iff (m : Mrk) (t : Int) (m2 : Mrk) (t2 : Int) : lessB m t m2 t2 = true ↔ t ≤ t2 ∧ kinT m = kinT m2 ∧ ∀ l ∈ m.ls, l ∈ m2.ls := by
  unfold lessB
  rw [Bool.and_eq_true, Bool.and_eq_true, decide_eq_true_eq, decide_eq_true_eq, List.all_eq_true]
  refine and_congr Iff.rfl (and_congr Iff.rfl ?_)
  exact ⟨fun h l m => of_decide_eq_true (h l m), fun h l m => decide_eq_true (h l m)⟩
theorem lessB_refl (m : Mrk) (t : Int) : lessB m t m t = true := (lessB_iff m t m t).mpr ⟨Int.le_refl _, rfl, fun _ h => h⟩
theorem lessB_trans {a b c : Mrk} {i j k : Int} (h : lessB a i b j = true) (g : lessB b j c k = true) : lessB a i c k = true := by
  rw [lessB_iff] at *
  exact ⟨Int.le_trans h.1 g.1, h.2.1.trans g.2.1, fun l m => g.2.2 l (h.2.2 l m)⟩
def markD (m : Mrk) (t : Int) : PyData := .tuple [.str m.me, .int t, .str m.na, .str m.wi, .tuple (m.ls.map lateD), .str m.vi]
theorem lates_eqv : ∀ ls ms : List Lt, PyData.eqvAll (ls.map lateD) (ms.map lateD) = decide (ls = ms)
  | [], [] => by simp [PyData.eqvAll]
  | [], b :: s => by simp [PyData.eqvAll]
  | a :: r, [] => by simp [PyData.eqvAll]
  | a :: r, b :: s => by
    rw [List.map_cons, List.map_cons, PyData.eqvAll, lateD_eqv, lates_eqv r s, ← Bool.decide_and]
    refine decide_eq_decide.mpr ?_
    rw [List.cons.injEq]
theorem markD_eqv (m : Mrk) (t : Int) (m2 : Mrk) (t2 : Int) : PyData.eqv (markD m t) (markD m2 t2) = true ↔ m.me = m2.me ∧ t = t2 ∧ m.na = m2.na ∧ m.wi = m2.wi ∧ m.ls = m2.ls ∧ m.vi = m2.vi := by
  unfold markD
  simp only [PyData.eqv, PyData.eqvAll, lates_eqv, Bool.and_eq_true, beq_iff_eq, decide_eq_true_eq, Bool.and_true]
theorem lessB_anti {a b : Mrk} {i j : Int} (h : lessB a i b j = true) (pa : a.ls.Pairwise LL) (pb : b.ls.Pairwise LL) : lessB b j a i = PyData.eqv (markD a i) (markD b j) := by
  rw [Bool.eq_iff_iff, markD_eqv, lessB_iff]
  rw [lessB_iff] at h
  obtain ⟨h1, h2, h3⟩ := h
  constructor
  · rintro ⟨g1, g2, g3⟩
    obtain ⟨e1, e2, e3, e4⟩ := PySem.W.T4.mk.inj h2
    exact ⟨e1, Int.le_antisymm h1 g1, e2, e3, sorted_eq pa pb h3 g3, e4⟩
  · rintro ⟨e1, e2, e3, e4, e5, e6⟩
    exact ⟨by omega, h2.symm, fun l m => by rw [e5]; exact m⟩
theorem markD_dp {K : PySem.W.Frag} {H : Hp} {v : V} {m : Mrk} {t : Int} (h : IsMrk H v m (.int t)) : Dp K H v (markD m t) := by
  obtain ⟨a, lv, rfl, ha, hl⟩ := h
  exact .tup (SqT.of ha) (.cons (.str _) (.cons (.int _) (.cons (.str _) (.cons (.str _) (.cons (IsLts.dp hl) (.cons (.str _) .nil))))))
theorem markD_shaped {m : Mrk} {t : Int} (ok : MrkOk m) : SeqAt.shaped (markD m t) = true := by
  have d1 := lateDs_depth m.ls
  show ((markD m t).canLay0 && decide ((markD m t).depth ≤ 64)) = true
  have h1 : (markD m t).canLay0 = true := by simp [markD, PyData.canLay0, PyData.canLayAll0, ok.1, ok.2.1, ok.2.2.1, ok.2.2.2.1, lateDs_lay ok.2.2.2.2]
  have h2 : (markD m t).depth ≤ 64 := by
    simp only [markD, PyData.depth, PyData.depthAll]
    omega
  rw [h1, decide_eq_true h2]
  rfl
/-! ### the law's loops -/
def spLaw (K : PySem.W.Frag) : Sp := fun vs H Q _ => ∃ (a : Addr) (ns : List Int), vs = [.ref a] ∧ SqL K H a (ns.map V.int) ∧ ns.length ≤ 63 ∧ ∀ H', Q (.bl true) H'
theorem sql_kp {K : PySem.W.Frag} {H H1 H2 : Hp} {a p : Addr} {xs : List V} (h : SqL K H a xs) (hp : H p = none) (s : Same H H1) (k : Kp p H1 H2) : SqL K H2 a xs := by
  rcases h with (h | ⟨o, h⟩) | h
  · exact .inl (.inl (k _ _ (ne_of_none h hp) (s _ _ h)))
  · exact .inl (.inr ⟨o, k _ _ (ne_of_none h hp) (s _ _ h)⟩)
  · exact .inr h
theorem join_if {b : Bool} {A B : Prop} {ta : TS} {D : Ends} {σ : L2.St} {H : Hp} (Pr : Hp → Prop) (h1 : b = true → (∀ H, Pr H → ta D σ H) → A) (h2 : b = false → Pr H) (k : ∀ H, Pr H → ta D σ H) : if b = true then A else (if false = true then B else ta D σ H) :=
  rd_iteB (fun c => h1 c k) (fun c => by
    rw [if_neg (by decide)]
    exact k _ (h2 c))
/-- a drawn mark where it stands -/
def MkG (x : Wd) (ts : List (Str × Int)) (X : Hp) (v : V) (m : Mrk) (t : Int) : Prop := IsMrk X v m (.int t) ∧ GoodM x ts m t
theorem MkG.same {x : Wd} {ts : List (Str × Int)} {X Y : Hp} {v : V} {m : Mrk} {t : Int} (h : MkG x ts X v m t) (s : Same X Y) : MkG x ts Y v m t := ⟨h.1.same s, h.2⟩
theorem MkG.mkV {x : Wd} {ts : List (Str × Int)} {p : Addr} {H : Hp} {v : V} {m : Mrk} {t : Int} (h : MkG x ts (mn p H) v m t) (g : GoodW x ts) : MkV x H v (some (m, t)) := h.2.mkV g (h.1.same mn_le)
theorem rd_within {C W a : Addr} {x : Wd} {ts : List (Str × Int)} {H : Hp} {Q : VK} {E : XK} {v v2 : V} {r r2 : Option (Mrk × Int)} (hw : IsWd C W H a x) (g : GoodW x ts) (h1 : MkV x H v r) (h2 : MkV x H v2 r2) (k : ∀ H', Same H H' → Q (.bl (withinB r r2)) H') : spWithin C W ([.ref a, v, v2] ++ []) H Q E :=
  ⟨a, v, v2, x, r, r2, rfl, hw, g.sm.2.2, h1, h2, k⟩
theorem rd_ownW {x : Wd} {ts : List (Str × Int)} {p : Addr} {H : Hp} {Q : VK} {E : XK} {v v2 : V} {m m2 : Mrk} {t t2 : Int} (g : GoodW x ts) (h1 : MkG x ts (mn p H) v m t) (h2 : MkG x ts (mn p H) v2 m2 t2) (k : ∀ H', Same H H' → Q (.bl (lessB m t m2 t2)) H') : spOwn ([v, v2] ++ []) H Q E :=
  ⟨v, v2, m, m2, t, t2, rfl, h1.1.same mn_le, h2.1.same mn_le, h1.2.ok g, h2.2.ok g, h1.2.few, k⟩
theorem ok_law {f C W : Addr} {fd : FuncData} (F : Fun K "law" "law" s_law f fd) (T : Txt mg) (n_list : mg "list" = none) (c_pot : Cal P w K mg base 1 "_law_pot_of" P__law_pot_of (spPotOf K)) (c_of : Cal P w K mg base 2 "_law_of" P__law_of spOf)
    (c_lw : Cal P w K mg base 3 "_law_late_world" P__law_late_world spLateW) (c_made : Cal P w K mg base 9 "_law_made" P__law_made (spMade C W)) (c_any : Cal P w K mg base 3 "_law_any_mark" P__law_any_mark spAny) (c_near : Cal P w K mg base 4 "_law_near" P__law_near spNear)
    (c_within : Cal P w K mg base 6 "within" P_within (spWithin C W)) (c_own : Cal P w K mg base 1 "_law_own_within" P__law_own_within spOwn) : FnG P w K mg base CX0 10 f fd P_law (spLaw K) := by
  obtain ⟨f_p, fd_p, G__law_pot_of, b__law_pot_of, g__law_pot_of, k__law_pot_of⟩ := c_pot
  obtain ⟨f_o, fd_o, G__law_of, b__law_of, g__law_of, k__law_of⟩ := c_of
  obtain ⟨f_l, fd_l, G__law_late_world, b__law_late_world, g__law_late_world, k__law_late_world⟩ := c_lw
  obtain ⟨f_m, fd_m, G__law_made, b__law_made, g__law_made, k__law_made⟩ := c_made
  obtain ⟨f_a, fd_a, G__law_any_mark, b__law_any_mark, g__law_any_mark, k__law_any_mark⟩ := c_any
  obtain ⟨f_n, fd_n, G__law_near, b__law_near, g__law_near, k__law_near⟩ := c_near
  obtain ⟨f_w, fd_w, G_within, b_within, g_within, k_within⟩ := c_within
  obtain ⟨f_i, fd_i, G__law_own_within, b__law_own_within, g__law_own_within, k__law_own_within⟩ := c_own
  refine Fun_okG F sc_law (fun vs H Q E h => ?_) (fun cdv A outer s H vs Q E calm hr h => ?_)
  · obtain ⟨a, ns, rfl, _⟩ := h
    rfl
  · obtain ⟨a, ns, rfl, hS, few, k⟩ := h
    refine ⟨_, (pss_cons (ps_for PassesOwn.never rfl (pi_range1 rfl T.n_range (pa_cons (pe_callB (call_max2 rfl) (by rfl) T.n_max (by decide +kernel) (pa_cons pe_int (pa_cons (pe_callB (call_min2 rfl) (by rfl) T.n_min (by decide +kernel) (pa_cons pe_int (pa_cons (pe_callB call_len_seq (by rfl) T.n_len (by decide +kernel) (pa_cons (pv 0) pa_nil)) pa_nil))) pa_nil))) pa_nil)) (pg_name (i := 1) sc_law.nd rfl (Or.inl rfl)) (pss_cons (ps_set (i := 2) sc_law.nd rfl (Or.inl rfl) (pe_call G__law_pot_of (hr.mono (by decide)) rfl g__law_pot_of k__law_pot_of b__law_pot_of .nil pass0 (pa_cons (pv 0) (pa_cons (pv 1) pa_nil))))
      (pss_cons (ps_asg (pe_call G__law_late_world (hr.mono (by decide)) rfl g__law_late_world k__law_late_world b__law_late_world .nil pass0 (pa_cons (pv 2) pa_nil)) (pg_tup rfl (pgs_cons (pg_name (i := 3) sc_law.nd rfl (Or.inl rfl)) (pgs_cons (pg_name (i := 4) sc_law.nd rfl (Or.inl rfl)) pgs_nil))))
      (pss_cons (ps_set (i := 5) sc_law.nd rfl (Or.inl rfl) (pe_call G__law_made (hr.mono (by decide)) rfl g__law_made k__law_made b__law_made .nil pass0 (pa_cons (pv 3) pa_nil)))
      (pss_one (ps_for PassesOwn.never rfl (pi_range1 rfl T.n_range (pa_cons pe_int pa_nil)) (pg_name (i := 6) sc_law.nd rfl (Or.inl rfl)) (pss_cons (ps_set (i := 7) sc_law.nd rfl (Or.inl rfl) (pe_call G__law_any_mark (hr.mono (by decide)) rfl g__law_any_mark k__law_any_mark b__law_any_mark .nil pass0 (pa_cons (pv 2) (pa_cons (pv 3) (pa_cons (pv 4) pa_nil)))))
      (pss_cons (ps_set (i := 8) sc_law.nd rfl (Or.inl rfl) (pe_call G__law_near (hr.mono (by decide)) rfl g__law_near k__law_near b__law_near .nil pass0 (pa_cons (pv 2) (pa_cons (pv 3) (pa_cons (pv 4) (pa_cons (pv 7) pa_nil))))))
      (pss_cons (ps_set (i := 9) sc_law.nd rfl (Or.inl rfl) (pe_call G__law_near (hr.mono (by decide)) rfl g__law_near k__law_near b__law_near .nil pass0 (pa_cons (pv 2) (pa_cons (pv 3) (pa_cons (pv 4) (pa_cons (pv 8) pa_nil))))))
      (pss_cons (ps_for PassesOwn.never rfl (pi_tup (pe_tup (pa_cons (pe_tup (pa_cons (pv 7) (pa_cons (pv 8) pa_nil))) (pa_cons (pe_tup (pa_cons (pv 8) (pa_cons (pv 7) pa_nil))) (pa_cons (pe_tup (pa_cons (pv 7) (pa_cons (pv 9) pa_nil))) (pa_cons (pe_tup (pa_cons (pv 9) (pa_cons (pv 7) pa_nil))) (pa_cons (pe_tup (pa_cons (pv 8) (pa_cons (pv 9) pa_nil))) pa_nil))))))) (pg_tup rfl (pgs_cons (pg_name (i := 10) sc_law.nd rfl (Or.inl rfl)) (pgs_cons (pg_name (i := 11) sc_law.nd rfl (Or.inl rfl)) pgs_nil))) (pss_one (ps_if (pt_cmpR op_ne (pe_callB (call_reprD calm (hu70 hr)) (by rfl) T.n_repr (by decide +kernel) (pa_cons (pe_call G_within (hr.mono (by decide)) rfl g_within k_within b_within .nil pass0 (pa_cons (pv 5) (pa_cons (pv 10) (pa_cons (pv 11) pa_nil)))) pa_nil)) (pe_callB (call_reprD calm (hu70 hr)) (by rfl) T.n_repr (by decide +kernel) (pa_cons (pe_call G__law_own_within (hr.mono (by decide)) rfl g__law_own_within k__law_own_within b__law_own_within .nil pass0 (pa_cons (pv 10) (pa_cons (pv 11) pa_nil))) pa_nil)) (nomark _)) (pss_one (ps_ret pe_bl)) pss_nil)))
      (pss_cons (ps_if (pt_not (pt_val (pe_call G_within (hr.mono (by decide)) rfl g_within k_within b_within .nil pass0 (pa_cons (pv 5) (pa_cons (pv 7) (pa_cons (pv 7) pa_nil)))))) (pss_one (ps_ret pe_bl)) pss_nil)
      (pss_cons (ps_if (PW.pt (pw_and (pt_val (pe_call G_within (hr.mono (by decide)) rfl g_within k_within b_within .nil pass0 (pa_cons (pv 5) (pa_cons (pv 7) (pa_cons (pv 8) pa_nil))))) (pw_and1 (pt_cmpR op_ne (pe_call G_within (hr.mono (by decide)) rfl g_within k_within b_within .nil pass0 (pa_cons (pv 5) (pa_cons (pv 8) (pa_cons (pv 7) pa_nil)))) (pe_cmpR (op_eqD hr.units) (pv 7) (pv 8) (nomark _)) (nomark _))))) (pss_one (ps_ret pe_bl)) pss_nil)
      (pss_cons (ps_if (PW.pt (pw_and (pt_val (pe_call G_within (hr.mono (by decide)) rfl g_within k_within b_within .nil pass0 (pa_cons (pv 5) (pa_cons (pv 7) (pa_cons (pv 8) pa_nil))))) (pw_and (pt_val (pe_call G_within (hr.mono (by decide)) rfl g_within k_within b_within .nil pass0 (pa_cons (pv 5) (pa_cons (pv 8) (pa_cons (pv 9) pa_nil))))) (pw_and1 (pt_not (pt_val (pe_call G_within (hr.mono (by decide)) rfl g_within k_within b_within .nil pass0 (pa_cons (pv 5) (pa_cons (pv 7) (pa_cons (pv 9) pa_nil)))))))))) (pss_one (ps_ret pe_bl)) pss_nil)
      (pss_cons (ps_set (i := 12) sc_law.nd rfl (Or.inl rfl) (pe_call G__law_of (hr.mono (by decide)) rfl g__law_of k__law_of b__law_of .nil pass0 (pa_cons (pv 2) (pa_cons (pe_lst (pa_cons pe_non (pa_cons (pe_callTy call_list_of (by rfl) n_list (by decide +kernel) (pa_cons (pv 7) pa_nil)) (pa_cons (pe_slice sl_tupA (pv 7) po_none (po_some pe_int)) (pa_cons (pe_op op_catA (pv 7) (pe_tup (pa_cons pe_str pa_nil))) (pa_cons (pe_tup pa_nil) (pa_cons pe_str (pa_cons pe_int (pa_cons (pe_op op_catA (pe_op op_catA (pe_slice sl_tupA (pv 7) po_none (po_some pe_int)) (pe_tup (pa_cons pe_non pa_nil))) (pe_slice sl_tupA (pv 7) (po_some pe_int) po_none)) pa_nil))))))))) pa_nil))))
      (pss_one (ps_if (PW.pt (pw_or (pt_cmpR op_isnot_bl (pe_call G_within (hr.mono (by decide)) rfl g_within k_within b_within .nil pass0 (pa_cons (pv 5) (pa_cons (pv 12) (pa_cons (pv 7) pa_nil)))) pe_bl (nomark _)) (pw_or1 (pt_cmpR op_isnot_bl (pe_call G_within (hr.mono (by decide)) rfl g_within k_within b_within .nil pass0 (pa_cons (pv 5) (pa_cons (pv 7) (pa_cons (pv 12) pa_nil)))) pe_bl (nomark _))))) (pss_one (ps_ret pe_bl)) pss_nil))))))))))))))))
      (pss_one (ps_ret pe_bl))), ?_⟩
    unfold tSl tNoPart tPart
    fail "z run"
    with_reducible refine rd_for ?_
    with_reducible refine rd_rng1 ?_
    fail "z run"
    refine rd_lenLs hS ?_
    fail "z run"
    refine ⟨by split <;> (try split) <;> omega, by split <;> (try split) <;> omega, for_range (lo := 0) (fun i σ H' => ∃ v1 v2 v3 v4 v5 v6 v7 v8 v9 va vb vc, σ = [some (.ref a), v1, v2, v3, v4, v5, v6, v7, v8, v9, va, vb, vc] ∧ SqL K H' a (ns.map V.int)) ⟨_, _, _, _, _, _, _, _, _, _, _, _, rfl, hS⟩ ?_ ?_⟩
    · rintro i σ H' hi ⟨v1, v2, v3, v4, v5, v6, v7, v8, v9, va, vb, vc, rfl, hS'⟩
      have i2 : i ≤ 2 := by
        split at hi <;> (try split at hi) <;> omega
      fail "z run"
      refine ⟨a, ns, _, rfl, hS', by omega, by omega, by omega, fun p H1 np S1 P1 => ?_⟩
      fail "z run"
      refine ⟨p, 99998, rfl, P1, fun tw lw H2 x ts d k2 P2 h2 hd hl gw => ?_⟩
      fail "z run"
      refine rd_gtup (mn_le _ _ h2) rfl ?_
      fail "z run"
      refine ⟨d, x, p, _, rfl, P2, hd, gw.kp, gw.sm, gw.ok, fun wa H3 S3 hw => ?_⟩
      have hp := P2.same S3
      have h3d := hd.same (mn_same S3)
      have h3l := hl.same (mn_same S3)
      have K3 : Kp p H1 H3 := kp_mn ((mn_kp k2).trans (mn_same S3))
      clear P2 hd hl k2 S3 h2
      fail "z run"
      dsimp only
      refine rd_for ?_
      with_reducible refine rd_rng1 ?_
      fail "z run"
      refine ⟨by decide, by decide, for_range (lo := 0) (fun j σ H4 => ∃ v6 v7 v8 v9 va vb vc, σ = [some (.ref a), some (.int (0 + (i : Int))), some (.ref p), some d, some (.ref lw), some (.ref wa), v6, v7, v8, v9, va, vb, vc] ∧ Same (mn p H3) (mn p H4) ∧ Pot H4 p (99998 - 44 * j)) ⟨_, _, _, _, _, _, _, rfl, Same.refl _, hp⟩ ?_ ?_⟩
      · rintro j σ H4 hj ⟨v6, v7, v8, v9, va, vb, vc, rfl, M4, hp⟩
        have hw := hw.same M4
        have hd := h3d.same M4
        have hl := h3l.same M4
        obtain ⟨mm, emm⟩ : ∃ mm, 99998 - 44 * j = mm + 44 := ⟨99998 - 44 * j - 44, by omega⟩
        rw [emm] at hp
        fail "z run"
        refine ⟨p, lw, mm + 31, d, x, ts, rfl, hp, hd, hl, gw, fun u1 H5 m1 t1 kp5 hp g1 gm1 => ?_⟩
        have N5 := mn_kp kp5
        have b1 : MkG x ts (mn p H5) u1 m1 t1 := ⟨g1, gm1⟩
        fail "z run"
        refine ⟨p, lw, mm + 16, d, u1, x, ts, m1, t1, rfl, hp, hd.same N5, hl.same N5, gw, g1, gm1, fun u2 H6 m2 t2 kp6 hp g2 gm2 => ?_⟩
        have N6 := mn_kp kp6
        have b2 : MkG x ts (mn p H6) u2 m2 t2 := ⟨g2, gm2⟩
        have b1 := b1.same N6
        have N56 := N5.trans N6
        fail "z run"
        refine ⟨p, lw, mm + 1, d, u2, x, ts, m2, t2, rfl, hp, hd.same N56, hl.same N56, gw, g2, gm2, fun u3 H7 m3 t3 kp7 hp g3 gm3 => ?_⟩
        have N7 := mn_kp kp7
        have b3 : MkG x ts (mn p H7) u3 m3 t3 := ⟨g3, gm3⟩
        have b1 := b1.same N7
        have b2 := b2.same N7
        have N47 := N56.trans N7
        have hw := hw.same N47
        clear g1 g2 g3 kp5 kp6 kp7 N5 N6 N56 N7 hd hl
        fail "z run"
        dsimp only
        refine rd_for ?_
        with_reducible refine rd_iT ?_
        fail "z run"
        intro p1 nn0; generalize hh0 : upd _ p1 _ = A1; obtain ⟨O1, e1, hp⟩ := fr_all hh0 nn0 hp; clear hh0 nn0; fail "z run"
        intro p2 nn0; generalize hh0 : upd _ p2 _ = A2; obtain ⟨O2, e2, hp⟩ := fr_all hh0 nn0 hp; clear hh0 nn0; fail "z run"
        intro p3 nn0; generalize hh0 : upd _ p3 _ = A3; obtain ⟨O3, e3, hp⟩ := fr_all hh0 nn0 hp; clear hh0 nn0; fail "z run"
        intro p4 nn0; generalize hh0 : upd _ p4 _ = A4; obtain ⟨O4, e4, hp⟩ := fr_all hh0 nn0 hp; clear hh0 nn0; fail "z run"
        intro p5 nn0; generalize hh0 : upd _ p5 _ = A5; obtain ⟨O5, e5, hp⟩ := fr_all hh0 nn0 hp; clear hh0 nn0; fail "z run"
        intro p6 nn0; generalize hh0 : upd _ p6 _ = A6; obtain ⟨O6, e6, hp⟩ := fr_all hh0 nn0 hp; clear hh0 nn0; fail "z run"
        have prs : ∀ (i : Nat) (y : V), ([.ref p1, .ref p2, .ref p3, .ref p4, .ref p5] : List V)[i]? = some y → ∃ (q : Addr) (ua ub : V) (ma mb : Mrk) (ta tb : Int), y = .ref q ∧ mn p A6 q = some (.tup [ua, ub]) ∧ MkG x ts (mn p A6) ua ma ta ∧ MkG x ts (mn p A6) ub mb tb := by
          have O16 : Same (mn p H7) (mn p A6) := fun b o e => by fail "z upp"
          have c1 := b1.same O16
          have c2 := b2.same O16
          have c3 := b3.same O16
          clear O16
          intro i y hy
          match i, hy with
          | 0, hy => exact ⟨p1, u1, u2, m1, m2, t1, t2, (Option.some.inj hy).symm, by fail "z upp", c1, c2⟩
          | 1, hy => exact ⟨p2, u2, u1, m2, m1, t2, t1, (Option.some.inj hy).symm, by fail "z upp", c2, c1⟩
          | 2, hy => exact ⟨p3, u1, u3, m1, m3, t1, t3, (Option.some.inj hy).symm, by fail "z upp", c1, c3⟩
          | 3, hy => exact ⟨p4, u3, u1, m3, m1, t3, t1, (Option.some.inj hy).symm, by fail "z upp", c3, c1⟩
          | 4, hy => exact ⟨p5, u2, u3, m2, m3, t2, t3, (Option.some.inj hy).symm, by fail "z upp", c2, c3⟩
        have O16 : Same (mn p H7) (mn p A6) := fun b o e => by fail "z upp"
        have b1 := b1.same O16
        have b2 := b2.same O16
        have b3 := b3.same O16
        have hw := hw.same O16
        have M6 := (M4.trans N47).trans O16
        clear e1 e2 e3 e4 e5 O1 O2 O3 O4 O5 O6 O16 N47 M4
        refine rd_iTa (mn_le _ _ e6) (for_tup (K := K) (a := p6) (fun _ σ H' => ∃ vx vy, σ = [some (.ref a), some (.int (0 + (i : Int))), some (.ref p), some d, some (.ref lw), some (.ref wa), some (.int (0 + (j : Int))), some u1, some u2, some u3, vx, vy, vc] ∧ Same (mn p A6) (mn p H') ∧ Pot H' p (mm + 1)) ⟨_, _, rfl, Same.refl _, hp⟩ (fun i σ H' _ ⟨_, _, _, S, _⟩ => SqT.of (mn_le _ _ (S _ _ e6))) ?_ ?_)
        · rintro ii y σ H8 hy ⟨vx, vy, rfl, S8, hp⟩
          obtain ⟨q, ua, ub, ma, mb, ta, tb, rfl, eq, ga, gb⟩ := prs ii y hy
          have ga := ga.same S8
          have gb := gb.same S8
          have hw := hw.same S8
          refine rd_gtup (mn_le _ _ (S8 _ _ eq)) rfl ?_
          fail "z run"
          refine rd_within (hw.same mn_le) gw (ga.mkV gw) (gb.mkV gw) fun H9 S9 => ?_
          have hp := hp.same S9
          have ga := ga.same (mn_same S9)
          have gb := gb.same (mn_same S9)
          fail "z run"
          refine rd_repr (.bl _) (sm_bool (k := 0) _) (by decide) (by decide) ?_
          fail "z run"
          refine rd_ownW gw ga gb fun H10 S10 => ?_
          have hp := hp.same S10
          fail "z run"
          refine rd_repr (.bl _) (sm_bool (k := 0) _) (by decide) (by decide) ?_
          fail "z run"
          refine iteF' ?_ (by
            show (!decide (V.str (PyData.bool (lessB ma ta mb tb)).shown = _)) = false
            rw [decide_eq_true rfl]
            rfl)
          fail "z run"
          exact ⟨_, _, rfl, (S8.trans (mn_same S9)).trans (mn_same S10), hp⟩
        · rintro σ H8 ⟨vx, vy, rfl, S8, hp⟩
          have b1 := b1.same S8
          have b2 := b2.same S8
          have b3 := b3.same S8
          have hw := hw.same S8
          have M8 := M6.trans S8
          clear prs e6 M6 S8
          fail "z run"
          refine rd_within (hw.same mn_le) gw (b1.mkV gw) (b1.mkV gw) fun H9 S9 => ?_
          have hp := hp.same S9
          have N9 := mn_same (p := p) S9
          have b1 := b1.same N9
          have b2 := b2.same N9
          have b3 := b3.same N9
          have hw := hw.same N9
          have M9 := M8.trans N9
          clear M8 N9 S9
          rw [show withinB (some (m1, t1)) (some (m1, t1)) = true from lessB_refl m1 t1]
          fail "z run"
          refine iteF' ?_
          fail "z run"
          refine rd_within (hw.same mn_le) gw (b1.mkV gw) (b2.mkV gw) fun H10 S10 => ?_
          have hp := hp.same S10
          have N10 := mn_same (p := p) S10
          have b1 := b1.same N10
          have b2 := b2.same N10
          have b3 := b3.same N10
          have hw := hw.same N10
          have M10 := M9.trans N10
          clear M9 N10 S10
          fail "z run"
          refine join_if (fun X => Same (mn p H10) (mn p X) ∧ Pot X p (mm + 1)) (fun c k' => ?_) (fun c => ⟨Same.refl _, hp⟩) fun H11 ⟨S11, hp⟩ => ?_
          · fail "z run"
            refine rd_within (hw.same mn_le) gw (b2.mkV gw) (b1.mkV gw) fun H11 S11 => ?_
            have hp := hp.same S11
            have N11 := mn_same (p := p) S11
            have b1 := b1.same N11
            have b2 := b2.same N11
            fail "z run"
            refine ⟨_, _, markD_dp (b1.1.same mn_le), markD_dp (b2.1.same mn_le), markD_shaped (b1.2.ok gw), markD_shaped (b2.2.ok gw), ?_⟩
            fail "z run"
            refine iteF' ?_ (by
              have e : lessB m2 t2 m1 t1 = _ := lessB_anti (show lessB m1 t1 m2 t2 = true from c) b1.2.pw b2.2.pw
              show (!decide (V.bl (lessB m2 t2 m1 t1) = _)) = false
              rw [e, decide_eq_true rfl]
              rfl)
            exact k' _ ⟨N11, hp⟩
          have b1 := b1.same S11
          have b2 := b2.same S11
          have b3 := b3.same S11
          have hw := hw.same S11
          have M11 := M10.trans S11
          clear M10 S11
          fail "z run"
          refine rd_within (hw.same mn_le) gw (b1.mkV gw) (b2.mkV gw) fun H12 S12 => ?_
          have hp := hp.same S12
          have N12 := mn_same (p := p) S12
          have b1 := b1.same N12
          have b2 := b2.same N12
          have b3 := b3.same N12
          have hw := hw.same N12
          have M12 := M11.trans N12
          clear M11 N12 S12
          fail "z run"
          refine join_if (fun X => Same (mn p H12) (mn p X) ∧ Pot X p (mm + 1)) (fun c k' => ?_) (fun c => ⟨Same.refl _, hp⟩) fun H13 ⟨S13, hp⟩ => ?_
          · fail "z run"
            refine rd_within (hw.same mn_le) gw (b2.mkV gw) (b3.mkV gw) fun H13 S13 => ?_
            have hp := hp.same S13
            have N13 := mn_same (p := p) S13
            have b1 := b1.same N13
            have b3 := b3.same N13
            have hw := hw.same N13
            fail "z run"
            refine rd_iteB (fun c2 => ?_) (fun c2 => iteF' (k' _ ⟨N13, hp⟩))
            fail "z run"
            refine rd_within (hw.same mn_le) gw (b1.mkV gw) (b3.mkV gw) fun H14 S14 => ?_
            have hp := hp.same S14
            have N14 := mn_same (p := p) S14
            rw [show withinB (some (m1, t1)) (some (m3, t3)) = true from lessB_trans (show lessB m1 t1 m2 t2 = true from c) (show lessB m2 t2 m3 t3 = true from c2)]
            fail "z run"
            refine iteF' ?_
            exact k' _ ⟨N13.trans N14, hp⟩
          have b1 := b1.same S13
          have hw := hw.same S13
          have M13 := M12.trans S13
          clear M12 S13 b2 b3
          obtain ⟨a1, lv1, rfl, ea1, el1⟩ := id b1.1
          fail "z run"
          refine ⟨a1, _, rfl, .inr (SqT.of (mn_le _ _ ea1)), ?_⟩
          intro z1 nn0; generalize hh0 : upd _ z1 _ = Y1; obtain ⟨RY1, fY1, hp⟩ := fr_all hh0 nn0 hp; clear hh0 nn0; fail "z run"
          refine ⟨5, rfl, ?_⟩
          show rSlA _ (.ref a1) none (some 5) _ _
          refine rd_slA (mn_le _ _ (by fail "z upp" : mn p Y1 a1 = _)) fun z2 Y2 SY2 fY2 => ?_
          have hp := hp.same SY2
          have RY2 := mn_same (p := p) SY2
          have fY2 : mn p Y2 z2 = some (.tup [.str m1.me, .int t1, .str m1.na, .str m1.wi, lv1]) := mn_at fY2 hp
          fail "z run"
          intro z3 nn0; generalize hh0 : upd _ z3 _ = Y3; obtain ⟨RY3, fY3, hp⟩ := fr_all hh0 nn0 hp; clear hh0 nn0; fail "z run"
          refine rd_catA (mn_le _ _ (by fail "z upp" : mn p Y3 a1 = _)) (mn_le _ _ (by fail "z upp" : mn p Y3 z3 = _)) (by rw [sizeLine_eq]; simp) fun z4 Y4 SY4 fY4 => ?_
          have hp := hp.same SY4
          have RY4 := mn_same (p := p) SY4
          have fY4 : mn p Y4 z4 = some (.tup [.str m1.me, .int t1, .str m1.na, .str m1.wi, lv1, .str m1.vi, .str ""]) := mn_at fY4 hp
          fail "z run"
          intro z5 nn0; generalize hh0 : upd _ z5 _ = Y5; obtain ⟨RY5, fY5, hp⟩ := fr_all hh0 nn0 hp; clear hh0 nn0; fail "z run"
          refine ⟨1, rfl, ?_⟩
          show rSlA _ (.ref a1) none (some 1) _ _
          refine rd_slA (mn_le _ _ (by fail "z upp" : mn p Y5 a1 = _)) fun z6 Y6 SY6 fY6 => ?_
          have hp := hp.same SY6
          have RY6 := mn_same (p := p) SY6
          have fY6 : mn p Y6 z6 = some (.tup [.str m1.me]) := mn_at fY6 hp
          fail "z run"
          intro z7 nn0; generalize hh0 : upd _ z7 _ = Y7; obtain ⟨RY7, fY7, hp⟩ := fr_all hh0 nn0 hp; clear hh0 nn0; fail "z run"
          refine rd_catA (mn_le _ _ (by fail "z upp" : mn p Y7 z6 = _)) (mn_le _ _ (by fail "z upp" : mn p Y7 z7 = _)) (by rw [sizeLine_eq]; simp) fun z8 Y8 SY8 fY8 => ?_
          have hp := hp.same SY8
          have RY8 := mn_same (p := p) SY8
          have fY8 : mn p Y8 z8 = some (.tup [.str m1.me, .non]) := mn_at fY8 hp
          fail "z run"
          refine ⟨2, rfl, ?_⟩
          show rSlA _ (.ref a1) (some 2) none _ _
          refine rd_slA (mn_le _ _ (by fail "z upp" : mn p Y8 a1 = _)) fun z9 Y9 SY9 fY9 => ?_
          have hp := hp.same SY9
          have RY9 := mn_same (p := p) SY9
          have fY9 : mn p Y9 z9 = some (.tup [.str m1.na, .str m1.wi, lv1, .str m1.vi]) := mn_at fY9 hp
          fail "z run"
          refine rd_catA (mn_le _ _ (by fail "z upp" : mn p Y9 z8 = _)) (mn_le _ _ (by fail "z upp" : mn p Y9 z9 = _)) (by rw [sizeLine_eq]; simp) fun z10 Y10 SY10 fY10 => ?_
          have hp := hp.same SY10
          have RY10 := mn_same (p := p) SY10
          have fY10 : mn p Y10 z10 = some (.tup [.str m1.me, .non, .str m1.na, .str m1.wi, lv1, .str m1.vi]) := mn_at fY10 hp
          fail "z run"
          intro z11 nn0; generalize hh0 : upd _ z11 _ = Y11; obtain ⟨RY11, fY11, hp⟩ := fr_all hh0 nn0 hp; clear hh0 nn0; fail "z run"
          refine ⟨p, z11, mm, _, rfl, hp, mn_nep fY11, mn_le _ _ fY11, by show 0 < 8; decide, by show 8 ≤ 1000; decide, fun v Y12 mem kp hp => ?_⟩
          have R12 := mn_kp kp
          have odd : MkV x (mn p Y12) v none := by
            rcases List.mem_cons.mp mem with rfl | mem
            · exact .inl .non
            rcases List.mem_cons.mp mem with rfl | mem
            · exact .inl (.lst (by fail "z upp" : mn p Y12 z1 = _))
            rcases List.mem_cons.mp mem with rfl | mem
            · exact .inl (.tup (by fail "z upp" : mn p Y12 z2 = _) (by show ¬ 5 = 6; decide))
            rcases List.mem_cons.mp mem with rfl | mem
            · exact .inl (.tup (by fail "z upp" : mn p Y12 z4 = _) (by show ¬ 7 = 6; decide))
            rcases List.mem_cons.mp mem with rfl | mem
            · exact .inl (.tup (by fail "z upp" : mn p Y12 z5 = _) (by show ¬ 0 = 6; decide))
            rcases List.mem_cons.mp mem with rfl | mem
            · exact .inl (.str _)
            rcases List.mem_cons.mp mem with rfl | mem
            · exact .inl (.int _)
            rw [List.mem_singleton.mp mem]
            have R0 : Same (mn p H13) (mn p Y12) := fun b o e => by fail "z upp"
            exact .inr ⟨m1, ⟨z10, lv1, rfl, R12 _ _ (RY11 _ _ fY10), IsLts.same el1 R0⟩, b1.2.mrkP gw⟩
          have R0 : Same (mn p H13) (mn p Y12) := fun b o e => by fail "z upp"
          have b1 := b1.same R0
          have hw := hw.same R0
          have M14 := M13.trans R0
          clear R12 R0 mem kp
          fail "z run"
          refine rd_within (hw.same mn_le) gw (odd.same mn_le) (b1.mkV gw) fun X1 T1 => ?_
          have hp := hp.same T1
          have Q1 := mn_same (p := p) T1
          fail "z run"
          refine ⟨_, _, rfl, rfl, ?_⟩
          fail "z run"
          refine iteF' ?_
          fail "z run"
          refine rd_within ((hw.same Q1).same mn_le) gw ((b1.same Q1).mkV gw) ((odd.same Q1).same mn_le) fun X2 T2 => ?_
          have hp := hp.same T2
          have Q2 := mn_same (p := p) T2
          fail "z run"
          refine ⟨_, _, rfl, rfl, ?_⟩
          fail "z run"
          refine iteF' ?_
          fail "z run"
          exact ⟨_, _, _, _, _, _, _, rfl, (M14.trans Q1).trans Q2, hp.le (by omega)⟩
      · rintro σ H4 ⟨v6, v7, v8, v9, va, vb, vc, rfl, M4, hp⟩
        fail "z run"
        refine ⟨_, _, _, _, _, _, _, _, _, _, _, _, rfl, ?_⟩
        exact sql_kp hS' np S1 (kp_mn ((mn_kp K3).trans M4))
    · rintro σ H' ⟨v1, v2, v3, v4, v5, v6, v7, v8, v9, va, vb, vc, rfl, hS'⟩
      fail "z run"
      exact k _
end
/-! ### the end -/
def strsOf : List Value → Option (List Str)
  | [] => some []
  | .str x _ :: r => (strsOf r).map (x :: ·)
  | _ :: _ => none
theorem vals_strsOf : ∀ {us : List Value} {xs : List Str}, strsOf us = some xs → Vals (xs.map V.str) us
  | [], xs, h => by
    cases h
    exact .nil
  | u :: r, xs, h => by
    cases u with
    | str x t =>
      unfold strsOf at h
      cases q : strsOf r with
      | none => rw [q] at h; cases h
      | some ys =>
        rw [q] at h
        cases h
        exact .cons ⟨t, rfl⟩ (vals_strsOf q)
    | _ => cases h
theorem globT_of {K : PySem.W.Frag} {mg : Str → Option Value} {nm : Str} {a : Addr} {od : Option Addr} {its : Array Value} {n : Nat} {sl : Array (Option Value)} {xs : List Str} (g : mg nm = some (.ref a)) (h : K.lookup a = some ⟨.type "tuple", od, .seq its n, sl⟩) (e : strsOf its.toList = some xs) (l : xs.length ≤ 100) : GlobT K mg nm a xs := by
  refine ⟨g, fun H => .inr ⟨_, its, n, h, rfl, rfl, ?_, vals_strsOf e⟩⟩
  have z := (vals_strsOf e).length
  rw [List.length_map] at z
  have : its.size = its.toList.length := by simp
  have sz := sizeLine_eq
  omega
theorem all_mk {l : PySem.W.OpenLaw} {w : World} {K : PySem.W.Frag} {h : Heap} {mg : Str → Option Value} {fa : Addr}
    {C : Addr}
    {t1 t2 t3 t4 : Tok}
    {C_World : Addr}
    {a_READ_SIDES : Addr} {od_READ_SIDES : Option Addr} {its_READ_SIDES : Array Value} {n_READ_SIDES : Nat} {sl_READ_SIDES : Array (Option Value)}
    {a_DEEDS : Addr} {od_DEEDS : Option Addr} {its_DEEDS : Array Value} {n_DEEDS : Nat} {sl_DEEDS : Array (Option Value)}
    {a_HOWS : Addr} {od_HOWS : Option Addr} {its_HOWS : Array Value} {n_HOWS : Nat} {sl_HOWS : Array (Option Value)}
    {a_RULES : Addr} {od_RULES : Option Addr} {its_RULES : Array Value} {n_RULES : Nat} {sl_RULES : Array (Option Value)}
    {a_SIDES : Addr} {od_SIDES : Option Addr} {its_SIDES : Array Value} {n_SIDES : Nat} {sl_SIDES : Array (Option Value)}
    {a_IN_TWO_EVENTS : Addr} {od_IN_TWO_EVENTS : Option Addr} {its_IN_TWO_EVENTS : Array Value} {n_IN_TWO_EVENTS : Nat} {sl_IN_TWO_EVENTS : Array (Option Value)}
    {a_MEANT : Addr} {od_MEANT : Option Addr} {its_MEANT : Array Value} {n_MEANT : Nat} {sl_MEANT : Array (Option Value)}
    {a_NARROW_WORDS : Addr} {od_NARROW_WORDS : Option Addr} {its_NARROW_WORDS : Array Value} {n_NARROW_WORDS : Nat} {sl_NARROW_WORDS : Array (Option Value)}
    {a_WIDE_WORDS : Addr} {od_WIDE_WORDS : Option Addr} {its_WIDE_WORDS : Array Value} {n_WIDE_WORDS : Nat} {sl_WIDE_WORDS : Array (Option Value)}
    {a_LATE_WORDS : Addr} {od_LATE_WORDS : Option Addr} {its_LATE_WORDS : Array Value} {n_LATE_WORDS : Nat} {sl_LATE_WORDS : Array (Option Value)}
    {a_VISITS : Addr} {od_VISITS : Option Addr} {its_VISITS : Array Value} {n_VISITS : Nat} {sl_VISITS : Array (Option Value)}
    {fis_integer : Addr} {odis_integer anis_integer : Option Addr} {slis_integer : Array (Option Value)} {ocis_integer kVis_integer dcis_integer pmis_integer cdis_integer ctis_integer : Value}
    {fis_between : Addr} {odis_between anis_between : Option Addr} {slis_between : Array (Option Value)} {ocis_between kVis_between dcis_between pmis_between cdis_between ctis_between : Value}
    {fis_name : Addr} {odis_name anis_name : Option Addr} {slis_name : Array (Option Value)} {ocis_name kVis_name dcis_name pmis_name cdis_name ctis_name : Value}
    {fis_tuple_of : Addr} {odis_tuple_of anis_tuple_of : Option Addr} {slis_tuple_of : Array (Option Value)} {ocis_tuple_of kVis_tuple_of dcis_tuple_of pmis_tuple_of cdis_tuple_of ctis_tuple_of : Value}
    {fis_ascending : Addr} {odis_ascending anis_ascending : Option Addr} {slis_ascending : Array (Option Value)} {ocis_ascending kVis_ascending dcis_ascending pmis_ascending cdis_ascending ctis_ascending : Value}
    {fis_count : Addr} {odis_count anis_count : Option Addr} {slis_count : Array (Option Value)} {ocis_count kVis_count dcis_count pmis_count cdis_count ctis_count : Value}
    {feditions_of : Addr} {odeditions_of aneditions_of : Option Addr} {sleditions_of : Array (Option Value)} {oceditions_of kVeditions_of dceditions_of pmeditions_of cdeditions_of cteditions_of : Value}
    {fedition_of : Addr} {odedition_of anedition_of : Option Addr} {sledition_of : Array (Option Value)} {ocedition_of kVedition_of dcedition_of pmedition_of cdedition_of ctedition_of : Value}
    {fis_less : Addr} {odis_less anis_less : Option Addr} {slis_less : Array (Option Value)} {ocis_less kVis_less dcis_less pmis_less cdis_less ctis_less : Value}
    {fkin_of : Addr} {odkin_of ankin_of : Option Addr} {slkin_of : Array (Option Value)} {ockin_of kVkin_of dckin_of pmkin_of cdkin_of ctkin_of : Value}
    {fKind___init__ : Addr} {odKind___init__ anKind___init__ : Option Addr} {slKind___init__ : Array (Option Value)} {ocKind___init__ kVKind___init__ dcKind___init__ pmKind___init__ cdKind___init__ ctKind___init__ : Value}
    {fKind___le__ : Addr} {odKind___le__ anKind___le__ : Option Addr} {slKind___le__ : Array (Option Value)} {ocKind___le__ kVKind___le__ dcKind___le__ pmKind___le__ cdKind___le__ ctKind___le__ : Value}
    {fKind___lt__ : Addr} {odKind___lt__ anKind___lt__ : Option Addr} {slKind___lt__ : Array (Option Value)} {ocKind___lt__ kVKind___lt__ dcKind___lt__ pmKind___lt__ cdKind___lt__ ctKind___lt__ : Value}
    {fKind___eq__ : Addr} {odKind___eq__ anKind___eq__ : Option Addr} {slKind___eq__ : Array (Option Value)} {ocKind___eq__ kVKind___eq__ dcKind___eq__ pmKind___eq__ cdKind___eq__ ctKind___eq__ : Value}
    {fWorld___init__ : Addr} {odWorld___init__ anWorld___init__ : Option Addr} {slWorld___init__ : Array (Option Value)} {ocWorld___init__ kVWorld___init__ dcWorld___init__ pmWorld___init__ cdWorld___init__ ctWorld___init__ : Value}
    {f_are_kinds : Addr} {od_are_kinds an_are_kinds : Option Addr} {sl_are_kinds : Array (Option Value)} {oc_are_kinds kV_are_kinds dc_are_kinds pm_are_kinds cd_are_kinds ct_are_kinds : Value}
    {f_are_columns : Addr} {od_are_columns an_are_columns : Option Addr} {sl_are_columns : Array (Option Value)} {oc_are_columns kV_are_columns dc_are_columns pm_are_columns cd_are_columns ct_are_columns : Value}
    {f_are_programs : Addr} {od_are_programs an_are_programs : Option Addr} {sl_are_programs : Array (Option Value)} {oc_are_programs kV_are_programs dc_are_programs pm_are_programs cd_are_programs ct_are_programs : Value}
    {f_is_program : Addr} {od_is_program an_is_program : Option Addr} {sl_is_program : Array (Option Value)} {oc_is_program kV_is_program dc_is_program pm_is_program cd_is_program ct_is_program : Value}
    {f_is_edition : Addr} {od_is_edition an_is_edition : Option Addr} {sl_is_edition : Array (Option Value)} {oc_is_edition kV_is_edition dc_is_edition pm_is_edition cd_is_edition ct_is_edition : Value}
    {f_are_rows : Addr} {od_are_rows an_are_rows : Option Addr} {sl_are_rows : Array (Option Value)} {oc_are_rows kV_are_rows dc_are_rows pm_are_rows cd_are_rows ct_are_rows : Value}
    {f_is_read : Addr} {od_is_read an_is_read : Option Addr} {sl_is_read : Array (Option Value)} {oc_is_read kV_is_read dc_is_read pm_is_read cd_is_read ct_is_read : Value}
    {f_is_write : Addr} {od_is_write an_is_write : Option Addr} {sl_is_write : Array (Option Value)} {oc_is_write kV_is_write dc_is_write pm_is_write cd_is_write ct_is_write : Value}
    {f_is_first_edition : Addr} {od_is_first_edition an_is_first_edition : Option Addr} {sl_is_first_edition : Array (Option Value)} {oc_is_first_edition kV_is_first_edition dc_is_first_edition pm_is_first_edition cd_is_first_edition ct_is_first_edition : Value}
    {f_many_in_two_events : Addr} {od_many_in_two_events an_many_in_two_events : Option Addr} {sl_many_in_two_events : Array (Option Value)} {oc_many_in_two_events kV_many_in_two_events dc_many_in_two_events pm_many_in_two_events cd_many_in_two_events ct_many_in_two_events : Value}
    {fis_mark : Addr} {odis_mark anis_mark : Option Addr} {slis_mark : Array (Option Value)} {ocis_mark kVis_mark dcis_mark pmis_mark cdis_mark ctis_mark : Value}
    {fwithin : Addr} {odwithin anwithin : Option Addr} {slwithin : Array (Option Value)} {ocwithin kVwithin dcwithin pmwithin cdwithin ctwithin : Value}
    {f_is_top : Addr} {od_is_top an_is_top : Option Addr} {sl_is_top : Array (Option Value)} {oc_is_top kV_is_top dc_is_top pm_is_top cd_is_top ct_is_top : Value}
    {f_are_late : Addr} {od_are_late an_are_late : Option Addr} {sl_are_late : Array (Option Value)} {oc_are_late kV_are_late dc_are_late pm_are_late cd_are_late ct_are_late : Value}
    {f_is_late : Addr} {od_is_late an_is_late : Option Addr} {sl_is_late : Array (Option Value)} {oc_is_late kV_is_late dc_is_late pm_is_late cd_is_late ct_is_late : Value}
    {f_law_pot_of : Addr} {od_law_pot_of an_law_pot_of : Option Addr} {sl_law_pot_of : Array (Option Value)} {oc_law_pot_of kV_law_pot_of dc_law_pot_of pm_law_pot_of cd_law_pot_of ct_law_pot_of : Value}
    {f_law_take : Addr} {od_law_take an_law_take : Option Addr} {sl_law_take : Array (Option Value)} {oc_law_take kV_law_take dc_law_take pm_law_take cd_law_take ct_law_take : Value}
    {f_law_of : Addr} {od_law_of an_law_of : Option Addr} {sl_law_of : Array (Option Value)} {oc_law_of kV_law_of dc_law_of pm_law_of cd_law_of ct_law_of : Value}
    {f_law_in_order : Addr} {od_law_in_order an_law_in_order : Option Addr} {sl_law_in_order : Array (Option Value)} {oc_law_in_order kV_law_in_order dc_law_in_order pm_law_in_order cd_law_in_order ct_law_in_order : Value}
    {f_law_made : Addr} {od_law_made an_law_made : Option Addr} {sl_law_made : Array (Option Value)} {oc_law_made kV_law_made dc_law_made pm_law_made cd_law_made ct_law_made : Value}
    {f_law_late_world : Addr} {od_law_late_world an_law_late_world : Option Addr} {sl_law_late_world : Array (Option Value)} {oc_law_late_world kV_law_late_world dc_law_late_world pm_law_late_world cd_law_late_world ct_law_late_world : Value}
    {f_law_any_mark : Addr} {od_law_any_mark an_law_any_mark : Option Addr} {sl_law_any_mark : Array (Option Value)} {oc_law_any_mark kV_law_any_mark dc_law_any_mark pm_law_any_mark cd_law_any_mark ct_law_any_mark : Value}
    {f_law_own_within : Addr} {od_law_own_within an_law_own_within : Option Addr} {sl_law_own_within : Array (Option Value)} {oc_law_own_within kV_law_own_within dc_law_own_within pm_law_own_within cd_law_own_within ct_law_own_within : Value}
    {f_law_near : Addr} {od_law_near an_law_near : Option Addr} {sl_law_near : Array (Option Value)} {oc_law_near kV_law_near dc_law_near pm_law_near cd_law_near ct_law_near : Value}
    {flaw : Addr} {odlaw anlaw : Option Addr} {sllaw : Array (Option Value)} {oclaw kVlaw dclaw pmlaw cdlaw ctlaw : Value}
    (X : K.In h) (G : h.Ns mainGlobals mg) (hfa : mg "law" = some (.ref fa))
    (haC : PySem.W.nsIn K mainGlobals "Kind" = some (some (.ref C)))
    (hpg : PySem.W.plainGet K C Str.empty = true)
    (hhd : PySem.W.hasDictIn K C = true)
    (hpo : PySem.W.plainOver K C = true)
    (hsa : PySem.W.findIn K (.ref C) "__setattr__" = some (some (.builtin "object.__setattr__")))
    (hmk : PySem.W.makesIn K C = true)
    (hkc : PySem.W.keepIn K (.ref C) = true)
    (hnlow : PySem.W.findIn K (.ref C) "low" = some none)
    (hnhigh : PySem.W.findIn K (.ref C) "high" = some none)
    (hnsize : PySem.W.findIn K (.ref C) "size" = some none)
    (heStr : PySem.W.nsIn K mainGlobals "str" = some none)
    (hgMOST_LETTERS : PySem.W.nsIn K mainGlobals "MOST_LETTERS" = some (some (.int 8 t1)))
    (hgLEAST_NARROW : PySem.W.nsIn K mainGlobals "LEAST_NARROW" = some (some (.int 16 t2)))
    (hgMOST_PACE : PySem.W.nsIn K mainGlobals "MOST_PACE" = some (some (.int 99 t3)))
    (hgMOST_IN_TWO_EVENTS : PySem.W.nsIn K mainGlobals "MOST_IN_TWO_EVENTS" = some (some (.int 2 t4)))
    (hwa : PySem.W.nsIn K mainGlobals "World" = some (some (.ref C_World)))
    (hwpg : PySem.W.plainGet K C_World Str.empty = true)
    (hwhd : PySem.W.hasDictIn K C_World = true)
    (hwpo : PySem.W.plainOver K C_World = true)
    (hwsa : PySem.W.findIn K (.ref C_World) "__setattr__" = some (some (.builtin "object.__setattr__")))
    (hwmk : PySem.W.makesIn K C_World = true)
    (hwkc : PySem.W.keepIn K (.ref C_World) = true)
    (hwnnarrow : PySem.W.findIn K (.ref C_World) "narrow" = some none)
    (hwnwide : PySem.W.findIn K (.ref C_World) "wide" = some none)
    (hwncolumns : PySem.W.findIn K (.ref C_World) "columns" = some none)
    (hwnprograms : PySem.W.findIn K (.ref C_World) "programs" = some none)
    (hqany : PySem.W.nsIn K mainGlobals "any" = some none)
    (hqzip : PySem.W.nsIn K mainGlobals "zip" = some none)
    (hqlist : PySem.W.nsIn K mainGlobals "list" = some none)
    (hu0READ_SIDES : PySem.W.nsIn K mainGlobals "READ_SIDES" = some (some (.ref a_READ_SIDES)))
    (hu1READ_SIDES : K.lookup a_READ_SIDES = some ⟨.type "tuple", od_READ_SIDES, .seq its_READ_SIDES n_READ_SIDES, sl_READ_SIDES⟩)
    (hu2READ_SIDES : strsOf its_READ_SIDES.toList = some vREADS)
    (hu0DEEDS : PySem.W.nsIn K mainGlobals "DEEDS" = some (some (.ref a_DEEDS)))
    (hu1DEEDS : K.lookup a_DEEDS = some ⟨.type "tuple", od_DEEDS, .seq its_DEEDS n_DEEDS, sl_DEEDS⟩)
    (hu2DEEDS : strsOf its_DEEDS.toList = some vDEEDS)
    (hu0HOWS : PySem.W.nsIn K mainGlobals "HOWS" = some (some (.ref a_HOWS)))
    (hu1HOWS : K.lookup a_HOWS = some ⟨.type "tuple", od_HOWS, .seq its_HOWS n_HOWS, sl_HOWS⟩)
    (hu2HOWS : strsOf its_HOWS.toList = some vHOWS)
    (hu0RULES : PySem.W.nsIn K mainGlobals "RULES" = some (some (.ref a_RULES)))
    (hu1RULES : K.lookup a_RULES = some ⟨.type "tuple", od_RULES, .seq its_RULES n_RULES, sl_RULES⟩)
    (hu2RULES : strsOf its_RULES.toList = some vRULES)
    (hu0SIDES : PySem.W.nsIn K mainGlobals "SIDES" = some (some (.ref a_SIDES)))
    (hu1SIDES : K.lookup a_SIDES = some ⟨.type "tuple", od_SIDES, .seq its_SIDES n_SIDES, sl_SIDES⟩)
    (hu2SIDES : strsOf its_SIDES.toList = some vSIDES)
    (hu0IN_TWO_EVENTS : PySem.W.nsIn K mainGlobals "IN_TWO_EVENTS" = some (some (.ref a_IN_TWO_EVENTS)))
    (hu1IN_TWO_EVENTS : K.lookup a_IN_TWO_EVENTS = some ⟨.type "tuple", od_IN_TWO_EVENTS, .seq its_IN_TWO_EVENTS n_IN_TWO_EVENTS, sl_IN_TWO_EVENTS⟩)
    (hu2IN_TWO_EVENTS : strsOf its_IN_TWO_EVENTS.toList = some vTWO)
    (hu0MEANT : PySem.W.nsIn K mainGlobals "MEANT" = some (some (.ref a_MEANT)))
    (hu1MEANT : K.lookup a_MEANT = some ⟨.type "tuple", od_MEANT, .seq its_MEANT n_MEANT, sl_MEANT⟩)
    (hu2MEANT : strsOf its_MEANT.toList = some vMEANT)
    (hu0NARROW_WORDS : PySem.W.nsIn K mainGlobals "NARROW_WORDS" = some (some (.ref a_NARROW_WORDS)))
    (hu1NARROW_WORDS : K.lookup a_NARROW_WORDS = some ⟨.type "tuple", od_NARROW_WORDS, .seq its_NARROW_WORDS n_NARROW_WORDS, sl_NARROW_WORDS⟩)
    (hu2NARROW_WORDS : strsOf its_NARROW_WORDS.toList = some vNARROWS)
    (hu0WIDE_WORDS : PySem.W.nsIn K mainGlobals "WIDE_WORDS" = some (some (.ref a_WIDE_WORDS)))
    (hu1WIDE_WORDS : K.lookup a_WIDE_WORDS = some ⟨.type "tuple", od_WIDE_WORDS, .seq its_WIDE_WORDS n_WIDE_WORDS, sl_WIDE_WORDS⟩)
    (hu2WIDE_WORDS : strsOf its_WIDE_WORDS.toList = some vWIDES)
    (hu0LATE_WORDS : PySem.W.nsIn K mainGlobals "LATE_WORDS" = some (some (.ref a_LATE_WORDS)))
    (hu1LATE_WORDS : K.lookup a_LATE_WORDS = some ⟨.type "tuple", od_LATE_WORDS, .seq its_LATE_WORDS n_LATE_WORDS, sl_LATE_WORDS⟩)
    (hu2LATE_WORDS : strsOf its_LATE_WORDS.toList = some vLATE)
    (hu0VISITS : PySem.W.nsIn K mainGlobals "VISITS" = some (some (.ref a_VISITS)))
    (hu1VISITS : K.lookup a_VISITS = some ⟨.type "tuple", od_VISITS, .seq its_VISITS n_VISITS, sl_VISITS⟩)
    (hu2VISITS : strsOf its_VISITS.toList = some vVISITS)
    (heO1 : PySem.W.findIn K (.ref C) "__class__" = some (some (.builtin "object.__class__")))
    (heO4 : PySem.W.mroIn K C (.type "object") = some true)
    (heO5 : PySem.W.selfFirst K C = true)
    (heO6 : PySem.W.findIn K (.ref C) "__ne__" = some (some (.builtin "object.__ne__")))
    (heW4 : PySem.W.specialIn K (.builtin "object.__class__") "__get__" = some (some (.builtin "getset_descriptor.__get__")))
    (heW5 : PySem.W.takesIn K (.builtin "object.__class__") = some true)
    (hais_integer : PySem.W.nsIn K mainGlobals "is_integer" = some (some (.ref fis_integer)))
    (hlis_integer : K.lookup fis_integer = some ⟨ocis_integer, odis_integer, .func (PySem.W.fnOf "is_integer" "is_integer" (defArgs s_is_integer) (defBody s_is_integer) (defScope s_is_integer) .none kVis_integer dcis_integer pmis_integer anis_integer cdis_integer ctis_integer), slis_integer⟩)
    (hcis_integer : PySem.W.codeIn K cdis_integer "is_integer" = true)
    (hkis_integer : PySem.W.keepIn K (.ref fis_integer) = true)
    (hais_between : PySem.W.nsIn K mainGlobals "is_between" = some (some (.ref fis_between)))
    (hlis_between : K.lookup fis_between = some ⟨ocis_between, odis_between, .func (PySem.W.fnOf "is_between" "is_between" (defArgs s_is_between) (defBody s_is_between) (defScope s_is_between) .none kVis_between dcis_between pmis_between anis_between cdis_between ctis_between), slis_between⟩)
    (hcis_between : PySem.W.codeIn K cdis_between "is_between" = true)
    (hkis_between : PySem.W.keepIn K (.ref fis_between) = true)
    (hais_name : PySem.W.nsIn K mainGlobals "is_name" = some (some (.ref fis_name)))
    (hlis_name : K.lookup fis_name = some ⟨ocis_name, odis_name, .func (PySem.W.fnOf "is_name" "is_name" (defArgs s_is_name) (defBody s_is_name) (defScope s_is_name) .none kVis_name dcis_name pmis_name anis_name cdis_name ctis_name), slis_name⟩)
    (hcis_name : PySem.W.codeIn K cdis_name "is_name" = true)
    (hkis_name : PySem.W.keepIn K (.ref fis_name) = true)
    (hais_tuple_of : PySem.W.nsIn K mainGlobals "is_tuple_of" = some (some (.ref fis_tuple_of)))
    (hlis_tuple_of : K.lookup fis_tuple_of = some ⟨ocis_tuple_of, odis_tuple_of, .func (PySem.W.fnOf "is_tuple_of" "is_tuple_of" (defArgs s_is_tuple_of) (defBody s_is_tuple_of) (defScope s_is_tuple_of) .none kVis_tuple_of dcis_tuple_of pmis_tuple_of anis_tuple_of cdis_tuple_of ctis_tuple_of), slis_tuple_of⟩)
    (hcis_tuple_of : PySem.W.codeIn K cdis_tuple_of "is_tuple_of" = true)
    (hkis_tuple_of : PySem.W.keepIn K (.ref fis_tuple_of) = true)
    (hais_ascending : PySem.W.nsIn K mainGlobals "is_ascending" = some (some (.ref fis_ascending)))
    (hlis_ascending : K.lookup fis_ascending = some ⟨ocis_ascending, odis_ascending, .func (PySem.W.fnOf "is_ascending" "is_ascending" (defArgs s_is_ascending) (defBody s_is_ascending) (defScope s_is_ascending) .none kVis_ascending dcis_ascending pmis_ascending anis_ascending cdis_ascending ctis_ascending), slis_ascending⟩)
    (hcis_ascending : PySem.W.codeIn K cdis_ascending "is_ascending" = true)
    (hkis_ascending : PySem.W.keepIn K (.ref fis_ascending) = true)
    (hais_count : PySem.W.nsIn K mainGlobals "is_count" = some (some (.ref fis_count)))
    (hlis_count : K.lookup fis_count = some ⟨ocis_count, odis_count, .func (PySem.W.fnOf "is_count" "is_count" (defArgs s_is_count) (defBody s_is_count) (defScope s_is_count) .none kVis_count dcis_count pmis_count anis_count cdis_count ctis_count), slis_count⟩)
    (hcis_count : PySem.W.codeIn K cdis_count "is_count" = true)
    (hkis_count : PySem.W.keepIn K (.ref fis_count) = true)
    (haeditions_of : PySem.W.nsIn K mainGlobals "editions_of" = some (some (.ref feditions_of)))
    (hleditions_of : K.lookup feditions_of = some ⟨oceditions_of, odeditions_of, .func (PySem.W.fnOf "editions_of" "editions_of" (defArgs s_editions_of) (defBody s_editions_of) (defScope s_editions_of) .none kVeditions_of dceditions_of pmeditions_of aneditions_of cdeditions_of cteditions_of), sleditions_of⟩)
    (hceditions_of : PySem.W.codeIn K cdeditions_of "editions_of" = true)
    (hkeditions_of : PySem.W.keepIn K (.ref feditions_of) = true)
    (haedition_of : PySem.W.nsIn K mainGlobals "edition_of" = some (some (.ref fedition_of)))
    (hledition_of : K.lookup fedition_of = some ⟨ocedition_of, odedition_of, .func (PySem.W.fnOf "edition_of" "edition_of" (defArgs s_edition_of) (defBody s_edition_of) (defScope s_edition_of) .none kVedition_of dcedition_of pmedition_of anedition_of cdedition_of ctedition_of), sledition_of⟩)
    (hcedition_of : PySem.W.codeIn K cdedition_of "edition_of" = true)
    (hkedition_of : PySem.W.keepIn K (.ref fedition_of) = true)
    (hais_less : PySem.W.nsIn K mainGlobals "is_less" = some (some (.ref fis_less)))
    (hlis_less : K.lookup fis_less = some ⟨ocis_less, odis_less, .func (PySem.W.fnOf "is_less" "is_less" (defArgs s_is_less) (defBody s_is_less) (defScope s_is_less) .none kVis_less dcis_less pmis_less anis_less cdis_less ctis_less), slis_less⟩)
    (hcis_less : PySem.W.codeIn K cdis_less "is_less" = true)
    (hkis_less : PySem.W.keepIn K (.ref fis_less) = true)
    (hakin_of : PySem.W.nsIn K mainGlobals "kin_of" = some (some (.ref fkin_of)))
    (hlkin_of : K.lookup fkin_of = some ⟨ockin_of, odkin_of, .func (PySem.W.fnOf "kin_of" "kin_of" (defArgs s_kin_of) (defBody s_kin_of) (defScope s_kin_of) .none kVkin_of dckin_of pmkin_of ankin_of cdkin_of ctkin_of), slkin_of⟩)
    (hckin_of : PySem.W.codeIn K cdkin_of "kin_of" = true)
    (hkkin_of : PySem.W.keepIn K (.ref fkin_of) = true)
    (haKind___init__ : PySem.W.findIn K (.ref C) "__init__" = some (some (.ref fKind___init__)))
    (hiKind___init__ : PySem.W.isFn K (.ref fKind___init__) = true)
    (hlKind___init__ : K.lookup fKind___init__ = some ⟨ocKind___init__, odKind___init__, .func (PySem.W.fnOf "__init__" "Kind.__init__" (defArgs s_Kind___init__) (defBody s_Kind___init__) (defScope s_Kind___init__) .none kVKind___init__ dcKind___init__ pmKind___init__ anKind___init__ cdKind___init__ ctKind___init__), slKind___init__⟩)
    (hcKind___init__ : PySem.W.codeIn K cdKind___init__ "Kind.__init__" = true)
    (hkKind___init__ : PySem.W.keepIn K (.ref fKind___init__) = true)
    (haKind___le__ : PySem.W.findIn K (.ref C) "__le__" = some (some (.ref fKind___le__)))
    (hiKind___le__ : PySem.W.isFn K (.ref fKind___le__) = true)
    (hlKind___le__ : K.lookup fKind___le__ = some ⟨ocKind___le__, odKind___le__, .func (PySem.W.fnOf "__le__" "Kind.__le__" (defArgs s_Kind___le__) (defBody s_Kind___le__) (defScope s_Kind___le__) .none kVKind___le__ dcKind___le__ pmKind___le__ anKind___le__ cdKind___le__ ctKind___le__), slKind___le__⟩)
    (hcKind___le__ : PySem.W.codeIn K cdKind___le__ "Kind.__le__" = true)
    (hkKind___le__ : PySem.W.keepIn K (.ref fKind___le__) = true)
    (haKind___lt__ : PySem.W.findIn K (.ref C) "__lt__" = some (some (.ref fKind___lt__)))
    (hiKind___lt__ : PySem.W.isFn K (.ref fKind___lt__) = true)
    (hlKind___lt__ : K.lookup fKind___lt__ = some ⟨ocKind___lt__, odKind___lt__, .func (PySem.W.fnOf "__lt__" "Kind.__lt__" (defArgs s_Kind___lt__) (defBody s_Kind___lt__) (defScope s_Kind___lt__) .none kVKind___lt__ dcKind___lt__ pmKind___lt__ anKind___lt__ cdKind___lt__ ctKind___lt__), slKind___lt__⟩)
    (hcKind___lt__ : PySem.W.codeIn K cdKind___lt__ "Kind.__lt__" = true)
    (hkKind___lt__ : PySem.W.keepIn K (.ref fKind___lt__) = true)
    (haKind___eq__ : PySem.W.findIn K (.ref C) "__eq__" = some (some (.ref fKind___eq__)))
    (hiKind___eq__ : PySem.W.isFn K (.ref fKind___eq__) = true)
    (hlKind___eq__ : K.lookup fKind___eq__ = some ⟨ocKind___eq__, odKind___eq__, .func (PySem.W.fnOf "__eq__" "Kind.__eq__" (defArgs s_Kind___eq__) (defBody s_Kind___eq__) (defScope s_Kind___eq__) .none kVKind___eq__ dcKind___eq__ pmKind___eq__ anKind___eq__ cdKind___eq__ ctKind___eq__), slKind___eq__⟩)
    (hcKind___eq__ : PySem.W.codeIn K cdKind___eq__ "Kind.__eq__" = true)
    (hkKind___eq__ : PySem.W.keepIn K (.ref fKind___eq__) = true)
    (haWorld___init__ : PySem.W.findIn K (.ref C_World) "__init__" = some (some (.ref fWorld___init__)))
    (hiWorld___init__ : PySem.W.isFn K (.ref fWorld___init__) = true)
    (hlWorld___init__ : K.lookup fWorld___init__ = some ⟨ocWorld___init__, odWorld___init__, .func (PySem.W.fnOf "__init__" "World.__init__" (defArgs s_World___init__) (defBody s_World___init__) (defScope s_World___init__) .none kVWorld___init__ dcWorld___init__ pmWorld___init__ anWorld___init__ cdWorld___init__ ctWorld___init__), slWorld___init__⟩)
    (hcWorld___init__ : PySem.W.codeIn K cdWorld___init__ "World.__init__" = true)
    (hkWorld___init__ : PySem.W.keepIn K (.ref fWorld___init__) = true)
    (ha_are_kinds : PySem.W.nsIn K mainGlobals "_are_kinds" = some (some (.ref f_are_kinds)))
    (hl_are_kinds : K.lookup f_are_kinds = some ⟨oc_are_kinds, od_are_kinds, .func (PySem.W.fnOf "_are_kinds" "_are_kinds" (defArgs s__are_kinds) (defBody s__are_kinds) (defScope s__are_kinds) .none kV_are_kinds dc_are_kinds pm_are_kinds an_are_kinds cd_are_kinds ct_are_kinds), sl_are_kinds⟩)
    (hc_are_kinds : PySem.W.codeIn K cd_are_kinds "_are_kinds" = true)
    (hk_are_kinds : PySem.W.keepIn K (.ref f_are_kinds) = true)
    (ha_are_columns : PySem.W.nsIn K mainGlobals "_are_columns" = some (some (.ref f_are_columns)))
    (hl_are_columns : K.lookup f_are_columns = some ⟨oc_are_columns, od_are_columns, .func (PySem.W.fnOf "_are_columns" "_are_columns" (defArgs s__are_columns) (defBody s__are_columns) (defScope s__are_columns) .none kV_are_columns dc_are_columns pm_are_columns an_are_columns cd_are_columns ct_are_columns), sl_are_columns⟩)
    (hc_are_columns : PySem.W.codeIn K cd_are_columns "_are_columns" = true)
    (hk_are_columns : PySem.W.keepIn K (.ref f_are_columns) = true)
    (ha_are_programs : PySem.W.nsIn K mainGlobals "_are_programs" = some (some (.ref f_are_programs)))
    (hl_are_programs : K.lookup f_are_programs = some ⟨oc_are_programs, od_are_programs, .func (PySem.W.fnOf "_are_programs" "_are_programs" (defArgs s__are_programs) (defBody s__are_programs) (defScope s__are_programs) .none kV_are_programs dc_are_programs pm_are_programs an_are_programs cd_are_programs ct_are_programs), sl_are_programs⟩)
    (hc_are_programs : PySem.W.codeIn K cd_are_programs "_are_programs" = true)
    (hk_are_programs : PySem.W.keepIn K (.ref f_are_programs) = true)
    (ha_is_program : PySem.W.nsIn K mainGlobals "_is_program" = some (some (.ref f_is_program)))
    (hl_is_program : K.lookup f_is_program = some ⟨oc_is_program, od_is_program, .func (PySem.W.fnOf "_is_program" "_is_program" (defArgs s__is_program) (defBody s__is_program) (defScope s__is_program) .none kV_is_program dc_is_program pm_is_program an_is_program cd_is_program ct_is_program), sl_is_program⟩)
    (hc_is_program : PySem.W.codeIn K cd_is_program "_is_program" = true)
    (hk_is_program : PySem.W.keepIn K (.ref f_is_program) = true)
    (ha_is_edition : PySem.W.nsIn K mainGlobals "_is_edition" = some (some (.ref f_is_edition)))
    (hl_is_edition : K.lookup f_is_edition = some ⟨oc_is_edition, od_is_edition, .func (PySem.W.fnOf "_is_edition" "_is_edition" (defArgs s__is_edition) (defBody s__is_edition) (defScope s__is_edition) .none kV_is_edition dc_is_edition pm_is_edition an_is_edition cd_is_edition ct_is_edition), sl_is_edition⟩)
    (hc_is_edition : PySem.W.codeIn K cd_is_edition "_is_edition" = true)
    (hk_is_edition : PySem.W.keepIn K (.ref f_is_edition) = true)
    (ha_are_rows : PySem.W.nsIn K mainGlobals "_are_rows" = some (some (.ref f_are_rows)))
    (hl_are_rows : K.lookup f_are_rows = some ⟨oc_are_rows, od_are_rows, .func (PySem.W.fnOf "_are_rows" "_are_rows" (defArgs s__are_rows) (defBody s__are_rows) (defScope s__are_rows) .none kV_are_rows dc_are_rows pm_are_rows an_are_rows cd_are_rows ct_are_rows), sl_are_rows⟩)
    (hc_are_rows : PySem.W.codeIn K cd_are_rows "_are_rows" = true)
    (hk_are_rows : PySem.W.keepIn K (.ref f_are_rows) = true)
    (ha_is_read : PySem.W.nsIn K mainGlobals "_is_read" = some (some (.ref f_is_read)))
    (hl_is_read : K.lookup f_is_read = some ⟨oc_is_read, od_is_read, .func (PySem.W.fnOf "_is_read" "_is_read" (defArgs s__is_read) (defBody s__is_read) (defScope s__is_read) .none kV_is_read dc_is_read pm_is_read an_is_read cd_is_read ct_is_read), sl_is_read⟩)
    (hc_is_read : PySem.W.codeIn K cd_is_read "_is_read" = true)
    (hk_is_read : PySem.W.keepIn K (.ref f_is_read) = true)
    (ha_is_write : PySem.W.nsIn K mainGlobals "_is_write" = some (some (.ref f_is_write)))
    (hl_is_write : K.lookup f_is_write = some ⟨oc_is_write, od_is_write, .func (PySem.W.fnOf "_is_write" "_is_write" (defArgs s__is_write) (defBody s__is_write) (defScope s__is_write) .none kV_is_write dc_is_write pm_is_write an_is_write cd_is_write ct_is_write), sl_is_write⟩)
    (hc_is_write : PySem.W.codeIn K cd_is_write "_is_write" = true)
    (hk_is_write : PySem.W.keepIn K (.ref f_is_write) = true)
    (ha_is_first_edition : PySem.W.nsIn K mainGlobals "_is_first_edition" = some (some (.ref f_is_first_edition)))
    (hl_is_first_edition : K.lookup f_is_first_edition = some ⟨oc_is_first_edition, od_is_first_edition, .func (PySem.W.fnOf "_is_first_edition" "_is_first_edition" (defArgs s__is_first_edition) (defBody s__is_first_edition) (defScope s__is_first_edition) .none kV_is_first_edition dc_is_first_edition pm_is_first_edition an_is_first_edition cd_is_first_edition ct_is_first_edition), sl_is_first_edition⟩)
    (hc_is_first_edition : PySem.W.codeIn K cd_is_first_edition "_is_first_edition" = true)
    (hk_is_first_edition : PySem.W.keepIn K (.ref f_is_first_edition) = true)
    (ha_many_in_two_events : PySem.W.nsIn K mainGlobals "_many_in_two_events" = some (some (.ref f_many_in_two_events)))
    (hl_many_in_two_events : K.lookup f_many_in_two_events = some ⟨oc_many_in_two_events, od_many_in_two_events, .func (PySem.W.fnOf "_many_in_two_events" "_many_in_two_events" (defArgs s__many_in_two_events) (defBody s__many_in_two_events) (defScope s__many_in_two_events) .none kV_many_in_two_events dc_many_in_two_events pm_many_in_two_events an_many_in_two_events cd_many_in_two_events ct_many_in_two_events), sl_many_in_two_events⟩)
    (hc_many_in_two_events : PySem.W.codeIn K cd_many_in_two_events "_many_in_two_events" = true)
    (hk_many_in_two_events : PySem.W.keepIn K (.ref f_many_in_two_events) = true)
    (hais_mark : PySem.W.nsIn K mainGlobals "is_mark" = some (some (.ref fis_mark)))
    (hlis_mark : K.lookup fis_mark = some ⟨ocis_mark, odis_mark, .func (PySem.W.fnOf "is_mark" "is_mark" (defArgs s_is_mark) (defBody s_is_mark) (defScope s_is_mark) .none kVis_mark dcis_mark pmis_mark anis_mark cdis_mark ctis_mark), slis_mark⟩)
    (hcis_mark : PySem.W.codeIn K cdis_mark "is_mark" = true)
    (hkis_mark : PySem.W.keepIn K (.ref fis_mark) = true)
    (hawithin : PySem.W.nsIn K mainGlobals "within" = some (some (.ref fwithin)))
    (hlwithin : K.lookup fwithin = some ⟨ocwithin, odwithin, .func (PySem.W.fnOf "within" "within" (defArgs s_within) (defBody s_within) (defScope s_within) .none kVwithin dcwithin pmwithin anwithin cdwithin ctwithin), slwithin⟩)
    (hcwithin : PySem.W.codeIn K cdwithin "within" = true)
    (hkwithin : PySem.W.keepIn K (.ref fwithin) = true)
    (ha_is_top : PySem.W.nsIn K mainGlobals "_is_top" = some (some (.ref f_is_top)))
    (hl_is_top : K.lookup f_is_top = some ⟨oc_is_top, od_is_top, .func (PySem.W.fnOf "_is_top" "_is_top" (defArgs s__is_top) (defBody s__is_top) (defScope s__is_top) .none kV_is_top dc_is_top pm_is_top an_is_top cd_is_top ct_is_top), sl_is_top⟩)
    (hc_is_top : PySem.W.codeIn K cd_is_top "_is_top" = true)
    (hk_is_top : PySem.W.keepIn K (.ref f_is_top) = true)
    (ha_are_late : PySem.W.nsIn K mainGlobals "_are_late" = some (some (.ref f_are_late)))
    (hl_are_late : K.lookup f_are_late = some ⟨oc_are_late, od_are_late, .func (PySem.W.fnOf "_are_late" "_are_late" (defArgs s__are_late) (defBody s__are_late) (defScope s__are_late) .none kV_are_late dc_are_late pm_are_late an_are_late cd_are_late ct_are_late), sl_are_late⟩)
    (hc_are_late : PySem.W.codeIn K cd_are_late "_are_late" = true)
    (hk_are_late : PySem.W.keepIn K (.ref f_are_late) = true)
    (ha_is_late : PySem.W.nsIn K mainGlobals "_is_late" = some (some (.ref f_is_late)))
    (hl_is_late : K.lookup f_is_late = some ⟨oc_is_late, od_is_late, .func (PySem.W.fnOf "_is_late" "_is_late" (defArgs s__is_late) (defBody s__is_late) (defScope s__is_late) .none kV_is_late dc_is_late pm_is_late an_is_late cd_is_late ct_is_late), sl_is_late⟩)
    (hc_is_late : PySem.W.codeIn K cd_is_late "_is_late" = true)
    (hk_is_late : PySem.W.keepIn K (.ref f_is_late) = true)
    (ha_law_pot_of : PySem.W.nsIn K mainGlobals "_law_pot_of" = some (some (.ref f_law_pot_of)))
    (hl_law_pot_of : K.lookup f_law_pot_of = some ⟨oc_law_pot_of, od_law_pot_of, .func (PySem.W.fnOf "_law_pot_of" "_law_pot_of" (defArgs s__law_pot_of) (defBody s__law_pot_of) (defScope s__law_pot_of) .none kV_law_pot_of dc_law_pot_of pm_law_pot_of an_law_pot_of cd_law_pot_of ct_law_pot_of), sl_law_pot_of⟩)
    (hc_law_pot_of : PySem.W.codeIn K cd_law_pot_of "_law_pot_of" = true)
    (hk_law_pot_of : PySem.W.keepIn K (.ref f_law_pot_of) = true)
    (ha_law_take : PySem.W.nsIn K mainGlobals "_law_take" = some (some (.ref f_law_take)))
    (hl_law_take : K.lookup f_law_take = some ⟨oc_law_take, od_law_take, .func (PySem.W.fnOf "_law_take" "_law_take" (defArgs s__law_take) (defBody s__law_take) (defScope s__law_take) .none kV_law_take dc_law_take pm_law_take an_law_take cd_law_take ct_law_take), sl_law_take⟩)
    (hc_law_take : PySem.W.codeIn K cd_law_take "_law_take" = true)
    (hk_law_take : PySem.W.keepIn K (.ref f_law_take) = true)
    (ha_law_of : PySem.W.nsIn K mainGlobals "_law_of" = some (some (.ref f_law_of)))
    (hl_law_of : K.lookup f_law_of = some ⟨oc_law_of, od_law_of, .func (PySem.W.fnOf "_law_of" "_law_of" (defArgs s__law_of) (defBody s__law_of) (defScope s__law_of) .none kV_law_of dc_law_of pm_law_of an_law_of cd_law_of ct_law_of), sl_law_of⟩)
    (hc_law_of : PySem.W.codeIn K cd_law_of "_law_of" = true)
    (hk_law_of : PySem.W.keepIn K (.ref f_law_of) = true)
    (ha_law_in_order : PySem.W.nsIn K mainGlobals "_law_in_order" = some (some (.ref f_law_in_order)))
    (hl_law_in_order : K.lookup f_law_in_order = some ⟨oc_law_in_order, od_law_in_order, .func (PySem.W.fnOf "_law_in_order" "_law_in_order" (defArgs s__law_in_order) (defBody s__law_in_order) (defScope s__law_in_order) .none kV_law_in_order dc_law_in_order pm_law_in_order an_law_in_order cd_law_in_order ct_law_in_order), sl_law_in_order⟩)
    (hc_law_in_order : PySem.W.codeIn K cd_law_in_order "_law_in_order" = true)
    (hk_law_in_order : PySem.W.keepIn K (.ref f_law_in_order) = true)
    (ha_law_made : PySem.W.nsIn K mainGlobals "_law_made" = some (some (.ref f_law_made)))
    (hl_law_made : K.lookup f_law_made = some ⟨oc_law_made, od_law_made, .func (PySem.W.fnOf "_law_made" "_law_made" (defArgs s__law_made) (defBody s__law_made) (defScope s__law_made) .none kV_law_made dc_law_made pm_law_made an_law_made cd_law_made ct_law_made), sl_law_made⟩)
    (hc_law_made : PySem.W.codeIn K cd_law_made "_law_made" = true)
    (hk_law_made : PySem.W.keepIn K (.ref f_law_made) = true)
    (ha_law_late_world : PySem.W.nsIn K mainGlobals "_law_late_world" = some (some (.ref f_law_late_world)))
    (hl_law_late_world : K.lookup f_law_late_world = some ⟨oc_law_late_world, od_law_late_world, .func (PySem.W.fnOf "_law_late_world" "_law_late_world" (defArgs s__law_late_world) (defBody s__law_late_world) (defScope s__law_late_world) .none kV_law_late_world dc_law_late_world pm_law_late_world an_law_late_world cd_law_late_world ct_law_late_world), sl_law_late_world⟩)
    (hc_law_late_world : PySem.W.codeIn K cd_law_late_world "_law_late_world" = true)
    (hk_law_late_world : PySem.W.keepIn K (.ref f_law_late_world) = true)
    (ha_law_any_mark : PySem.W.nsIn K mainGlobals "_law_any_mark" = some (some (.ref f_law_any_mark)))
    (hl_law_any_mark : K.lookup f_law_any_mark = some ⟨oc_law_any_mark, od_law_any_mark, .func (PySem.W.fnOf "_law_any_mark" "_law_any_mark" (defArgs s__law_any_mark) (defBody s__law_any_mark) (defScope s__law_any_mark) .none kV_law_any_mark dc_law_any_mark pm_law_any_mark an_law_any_mark cd_law_any_mark ct_law_any_mark), sl_law_any_mark⟩)
    (hc_law_any_mark : PySem.W.codeIn K cd_law_any_mark "_law_any_mark" = true)
    (hk_law_any_mark : PySem.W.keepIn K (.ref f_law_any_mark) = true)
    (ha_law_own_within : PySem.W.nsIn K mainGlobals "_law_own_within" = some (some (.ref f_law_own_within)))
    (hl_law_own_within : K.lookup f_law_own_within = some ⟨oc_law_own_within, od_law_own_within, .func (PySem.W.fnOf "_law_own_within" "_law_own_within" (defArgs s__law_own_within) (defBody s__law_own_within) (defScope s__law_own_within) .none kV_law_own_within dc_law_own_within pm_law_own_within an_law_own_within cd_law_own_within ct_law_own_within), sl_law_own_within⟩)
    (hc_law_own_within : PySem.W.codeIn K cd_law_own_within "_law_own_within" = true)
    (hk_law_own_within : PySem.W.keepIn K (.ref f_law_own_within) = true)
    (ha_law_near : PySem.W.nsIn K mainGlobals "_law_near" = some (some (.ref f_law_near)))
    (hl_law_near : K.lookup f_law_near = some ⟨oc_law_near, od_law_near, .func (PySem.W.fnOf "_law_near" "_law_near" (defArgs s__law_near) (defBody s__law_near) (defScope s__law_near) .none kV_law_near dc_law_near pm_law_near an_law_near cd_law_near ct_law_near), sl_law_near⟩)
    (hc_law_near : PySem.W.codeIn K cd_law_near "_law_near" = true)
    (hk_law_near : PySem.W.keepIn K (.ref f_law_near) = true)
    (halaw : PySem.W.nsIn K mainGlobals "law" = some (some (.ref flaw)))
    (hllaw : K.lookup flaw = some ⟨oclaw, odlaw, .func (PySem.W.fnOf "law" "law" (defArgs s_law) (defBody s_law) (defScope s_law) .none kVlaw dclaw pmlaw anlaw cdlaw ctlaw), sllaw⟩)
    (hclaw : PySem.W.codeIn K cdlaw "law" = true)
    (hklaw : PySem.W.keepIn K (.ref flaw) = true)
    (hzint : PySem.W.nsIn K mainGlobals "int" = some none)
    (hzlen : PySem.W.nsIn K mainGlobals "len" = some none)
    (hzabs : PySem.W.nsIn K mainGlobals "abs" = some none)
    (hzbool : PySem.W.nsIn K mainGlobals "bool" = some none)
    (hztuple : PySem.W.nsIn K mainGlobals "tuple" = some none)
    (hzisinstance : PySem.W.nsIn K mainGlobals "isinstance" = some none)
    (hzrange : PySem.W.nsIn K mainGlobals "range" = some none)
    (hzmax : PySem.W.nsIn K mainGlobals "max" = some none)
    (hzmin : PySem.W.nsIn K mainGlobals "min" = some none)
    (hzall : PySem.W.nsIn K mainGlobals "all" = some none)
    (hzrepr : PySem.W.nsIn K mainGlobals "repr" = some none) :
    ∃ fd : FuncData, (∀ (s : Shared) (v : Value), BindsTo s fd ⟨[v], []⟩ [("_law_script", v)]) ∧ ∀ base : Heap, K.In base → base.Ns mainGlobals mg → FnG l.prog w K mg base CX0 10 fa fd P_law (spLaw K) := by
  have e := hfa.symm.trans (PySem.W.mg_of X G halaw)
  cases e
  have T : Txt mg := ⟨PySem.W.mg_none_of X G hzint, PySem.W.mg_none_of X G hzlen, PySem.W.mg_none_of X G hzabs, PySem.W.mg_none_of X G hzbool, PySem.W.mg_none_of X G hztuple, PySem.W.mg_none_of X G hzisinstance, PySem.W.mg_none_of X G hzrange, PySem.W.mg_none_of X G hzmax, PySem.W.mg_none_of X G hzmin, PySem.W.mg_none_of X G hzall, PySem.W.mg_none_of X G hzrepr⟩
  have KT : KindT K C := ⟨⟨hpg, hhd, hpo, hsa⟩, hnlow, hnhigh, hnsize⟩
  have KO : KindO K C := ⟨⟨KT.cl, heO1, heW4, heW5, heO4, if_pos (beq_self_eq_true _)⟩, heO5, heO6⟩
  have gKind := PySem.W.mg_of X G haC
  have n_str := PySem.W.mg_none_of X G heStr
  have Fis_integer := fun_mk (st := s_is_integer) hlis_integer hcis_integer hkis_integer
  have bis_integer := Fis_integer.binds (ps := P_is_integer) fun _ _ _ _ _ _ us hl => match us, hl with | [_], _ => rfl
  have Fis_between := fun_mk (st := s_is_between) hlis_between hcis_between hkis_between
  have bis_between := Fis_between.binds (ps := P_is_between) fun _ _ _ _ _ _ us hl => match us, hl with | [_, _, _], _ => rfl
  have Fis_name := fun_mk (st := s_is_name) hlis_name hcis_name hkis_name
  have bis_name := Fis_name.binds (ps := P_is_name) fun _ _ _ _ _ _ us hl => match us, hl with | [_], _ => rfl
  have Fis_tuple_of := fun_mk (st := s_is_tuple_of) hlis_tuple_of hcis_tuple_of hkis_tuple_of
  have bis_tuple_of := Fis_tuple_of.binds (ps := P_is_tuple_of) fun _ _ _ _ _ _ us hl => match us, hl with | [_, _, _], _ => rfl
  have Fis_ascending := fun_mk (st := s_is_ascending) hlis_ascending hcis_ascending hkis_ascending
  have bis_ascending := Fis_ascending.binds (ps := P_is_ascending) fun _ _ _ _ _ _ us hl => match us, hl with | [_], _ => rfl
  have Fis_count := fun_mk (st := s_is_count) hlis_count hcis_count hkis_count
  have bis_count := Fis_count.binds (ps := P_is_count) fun _ _ _ _ _ _ us hl => match us, hl with | [_], _ => rfl
  have Feditions_of := fun_mk (st := s_editions_of) hleditions_of hceditions_of hkeditions_of
  have beditions_of := Feditions_of.binds (ps := P_editions_of) fun _ _ _ _ _ _ us hl => match us, hl with | [_, _], _ => rfl
  have Fedition_of := fun_mk (st := s_edition_of) hledition_of hcedition_of hkedition_of
  have bedition_of := Fedition_of.binds (ps := P_edition_of) fun _ _ _ _ _ _ us hl => match us, hl with | [_, _, _], _ => rfl
  have Fis_less := fun_mk (st := s_is_less) hlis_less hcis_less hkis_less
  have bis_less := Fis_less.binds (ps := P_is_less) fun _ _ _ _ _ _ us hl => match us, hl with | [_, _], _ => rfl
  have Fkin_of := fun_mk (st := s_kin_of) hlkin_of hckin_of hkkin_of
  have bkin_of := Fkin_of.binds (ps := P_kin_of) fun _ _ _ _ _ _ us hl => match us, hl with | [_], _ => rfl
  have FKind___init__ := fun_mk (st := s_Kind___init__) hlKind___init__ hcKind___init__ hkKind___init__
  have bKind___init__ := FKind___init__.binds (ps := P_Kind___init__) fun _ _ _ _ _ _ us hl => match us, hl with | [_, _, _], _ => rfl
  have FKind___le__ := fun_mk (st := s_Kind___le__) hlKind___le__ hcKind___le__ hkKind___le__
  have bKind___le__ := FKind___le__.binds (ps := P_Kind___le__) fun _ _ _ _ _ _ us hl => match us, hl with | [_, _], _ => rfl
  have FKind___lt__ := fun_mk (st := s_Kind___lt__) hlKind___lt__ hcKind___lt__ hkKind___lt__
  have bKind___lt__ := FKind___lt__.binds (ps := P_Kind___lt__) fun _ _ _ _ _ _ us hl => match us, hl with | [_, _], _ => rfl
  have FKind___eq__ := fun_mk (st := s_Kind___eq__) hlKind___eq__ hcKind___eq__ hkKind___eq__
  have bKind___eq__ := FKind___eq__.binds (ps := P_Kind___eq__) fun _ _ _ _ _ _ us hl => match us, hl with | [_, _], _ => rfl
  have FWorld___init__ := fun_mk (st := s_World___init__) hlWorld___init__ hcWorld___init__ hkWorld___init__
  have bWorld___init__ := FWorld___init__.binds (ps := P_World___init__) fun _ _ _ _ _ _ us hl => match us, hl with | [_, _, _, _, _], _ => rfl
  have F_are_kinds := fun_mk (st := s__are_kinds) hl_are_kinds hc_are_kinds hk_are_kinds
  have b_are_kinds := F_are_kinds.binds (ps := P__are_kinds) fun _ _ _ _ _ _ us hl => match us, hl with | [_, _], _ => rfl
  have F_are_columns := fun_mk (st := s__are_columns) hl_are_columns hc_are_columns hk_are_columns
  have b_are_columns := F_are_columns.binds (ps := P__are_columns) fun _ _ _ _ _ _ us hl => match us, hl with | [_], _ => rfl
  have F_are_programs := fun_mk (st := s__are_programs) hl_are_programs hc_are_programs hk_are_programs
  have b_are_programs := F_are_programs.binds (ps := P__are_programs) fun _ _ _ _ _ _ us hl => match us, hl with | [_, _], _ => rfl
  have F_is_program := fun_mk (st := s__is_program) hl_is_program hc_is_program hk_is_program
  have b_is_program := F_is_program.binds (ps := P__is_program) fun _ _ _ _ _ _ us hl => match us, hl with | [_, _], _ => rfl
  have F_is_edition := fun_mk (st := s__is_edition) hl_is_edition hc_is_edition hk_is_edition
  have b_is_edition := F_is_edition.binds (ps := P__is_edition) fun _ _ _ _ _ _ us hl => match us, hl with | [_, _], _ => rfl
  have F_are_rows := fun_mk (st := s__are_rows) hl_are_rows hc_are_rows hk_are_rows
  have b_are_rows := F_are_rows.binds (ps := P__are_rows) fun _ _ _ _ _ _ us hl => match us, hl with | [_, _, _], _ => rfl
  have F_is_read := fun_mk (st := s__is_read) hl_is_read hc_is_read hk_is_read
  have b_is_read := F_is_read.binds (ps := P__is_read) fun _ _ _ _ _ _ us hl => match us, hl with | [_], _ => rfl
  have F_is_write := fun_mk (st := s__is_write) hl_is_write hc_is_write hk_is_write
  have b_is_write := F_is_write.binds (ps := P__is_write) fun _ _ _ _ _ _ us hl => match us, hl with | [_, _], _ => rfl
  have F_is_first_edition := fun_mk (st := s__is_first_edition) hl_is_first_edition hc_is_first_edition hk_is_first_edition
  have b_is_first_edition := F_is_first_edition.binds (ps := P__is_first_edition) fun _ _ _ _ _ _ us hl => match us, hl with | [_], _ => rfl
  have F_many_in_two_events := fun_mk (st := s__many_in_two_events) hl_many_in_two_events hc_many_in_two_events hk_many_in_two_events
  have b_many_in_two_events := F_many_in_two_events.binds (ps := P__many_in_two_events) fun _ _ _ _ _ _ us hl => match us, hl with | [_], _ => rfl
  have Fis_mark := fun_mk (st := s_is_mark) hlis_mark hcis_mark hkis_mark
  have bis_mark := Fis_mark.binds (ps := P_is_mark) fun _ _ _ _ _ _ us hl => match us, hl with | [_, _], _ => rfl
  have Fwithin := fun_mk (st := s_within) hlwithin hcwithin hkwithin
  have bwithin := Fwithin.binds (ps := P_within) fun _ _ _ _ _ _ us hl => match us, hl with | [_, _, _], _ => rfl
  have F_is_top := fun_mk (st := s__is_top) hl_is_top hc_is_top hk_is_top
  have b_is_top := F_is_top.binds (ps := P__is_top) fun _ _ _ _ _ _ us hl => match us, hl with | [_, _, _], _ => rfl
  have F_are_late := fun_mk (st := s__are_late) hl_are_late hc_are_late hk_are_late
  have b_are_late := F_are_late.binds (ps := P__are_late) fun _ _ _ _ _ _ us hl => match us, hl with | [_, _], _ => rfl
  have F_is_late := fun_mk (st := s__is_late) hl_is_late hc_is_late hk_is_late
  have b_is_late := F_is_late.binds (ps := P__is_late) fun _ _ _ _ _ _ us hl => match us, hl with | [_, _], _ => rfl
  have F_law_pot_of := fun_mk (st := s__law_pot_of) hl_law_pot_of hc_law_pot_of hk_law_pot_of
  have b_law_pot_of := F_law_pot_of.binds (ps := P__law_pot_of) fun _ _ _ _ _ _ us hl => match us, hl with | [_, _], _ => rfl
  have F_law_take := fun_mk (st := s__law_take) hl_law_take hc_law_take hk_law_take
  have b_law_take := F_law_take.binds (ps := P__law_take) fun _ _ _ _ _ _ us hl => match us, hl with | [_, _], _ => rfl
  have F_law_of := fun_mk (st := s__law_of) hl_law_of hc_law_of hk_law_of
  have b_law_of := F_law_of.binds (ps := P__law_of) fun _ _ _ _ _ _ us hl => match us, hl with | [_, _], _ => rfl
  have F_law_in_order := fun_mk (st := s__law_in_order) hl_law_in_order hc_law_in_order hk_law_in_order
  have b_law_in_order := F_law_in_order.binds (ps := P__law_in_order) fun _ _ _ _ _ _ us hl => match us, hl with | [_], _ => rfl
  have F_law_made := fun_mk (st := s__law_made) hl_law_made hc_law_made hk_law_made
  have b_law_made := F_law_made.binds (ps := P__law_made) fun _ _ _ _ _ _ us hl => match us, hl with | [_], _ => rfl
  have F_law_late_world := fun_mk (st := s__law_late_world) hl_law_late_world hc_law_late_world hk_law_late_world
  have b_law_late_world := F_law_late_world.binds (ps := P__law_late_world) fun _ _ _ _ _ _ us hl => match us, hl with | [_], _ => rfl
  have F_law_any_mark := fun_mk (st := s__law_any_mark) hl_law_any_mark hc_law_any_mark hk_law_any_mark
  have b_law_any_mark := F_law_any_mark.binds (ps := P__law_any_mark) fun _ _ _ _ _ _ us hl => match us, hl with | [_, _, _], _ => rfl
  have F_law_own_within := fun_mk (st := s__law_own_within) hl_law_own_within hc_law_own_within hk_law_own_within
  have b_law_own_within := F_law_own_within.binds (ps := P__law_own_within) fun _ _ _ _ _ _ us hl => match us, hl with | [_, _], _ => rfl
  have F_law_near := fun_mk (st := s__law_near) hl_law_near hc_law_near hk_law_near
  have b_law_near := F_law_near.binds (ps := P__law_near) fun _ _ _ _ _ _ us hl => match us, hl with | [_, _, _, _], _ => rfl
  have Flaw := fun_mk (st := s_law) hllaw hclaw hklaw
  refine ⟨PySem.W.fnOf "law" "law" (defArgs s_law) (defBody s_law) (defScope s_law) .none kVlaw dclaw pmlaw anlaw cdlaw ctlaw, fun s v => .of_eq rfl, fun base _ _ => ?_⟩
  have GT_READ_SIDES : GlobT K mg "READ_SIDES" a_READ_SIDES vREADS := globT_of (PySem.W.mg_of X G hu0READ_SIDES) hu1READ_SIDES hu2READ_SIDES (by decide)
  have GT_DEEDS : GlobT K mg "DEEDS" a_DEEDS vDEEDS := globT_of (PySem.W.mg_of X G hu0DEEDS) hu1DEEDS hu2DEEDS (by decide)
  have GT_HOWS : GlobT K mg "HOWS" a_HOWS vHOWS := globT_of (PySem.W.mg_of X G hu0HOWS) hu1HOWS hu2HOWS (by decide)
  have GT_RULES : GlobT K mg "RULES" a_RULES vRULES := globT_of (PySem.W.mg_of X G hu0RULES) hu1RULES hu2RULES (by decide)
  have GT_SIDES : GlobT K mg "SIDES" a_SIDES vSIDES := globT_of (PySem.W.mg_of X G hu0SIDES) hu1SIDES hu2SIDES (by decide)
  have GT_IN_TWO_EVENTS : GlobT K mg "IN_TWO_EVENTS" a_IN_TWO_EVENTS vTWO := globT_of (PySem.W.mg_of X G hu0IN_TWO_EVENTS) hu1IN_TWO_EVENTS hu2IN_TWO_EVENTS (by decide)
  have GT_MEANT : GlobT K mg "MEANT" a_MEANT vMEANT := globT_of (PySem.W.mg_of X G hu0MEANT) hu1MEANT hu2MEANT (by decide)
  have GT_NARROW_WORDS : GlobT K mg "NARROW_WORDS" a_NARROW_WORDS vNARROWS := globT_of (PySem.W.mg_of X G hu0NARROW_WORDS) hu1NARROW_WORDS hu2NARROW_WORDS (by decide)
  have GT_WIDE_WORDS : GlobT K mg "WIDE_WORDS" a_WIDE_WORDS vWIDES := globT_of (PySem.W.mg_of X G hu0WIDE_WORDS) hu1WIDE_WORDS hu2WIDE_WORDS (by decide)
  have GT_LATE_WORDS : GlobT K mg "LATE_WORDS" a_LATE_WORDS vLATE := globT_of (PySem.W.mg_of X G hu0LATE_WORDS) hu1LATE_WORDS hu2LATE_WORDS (by decide)
  have GT_VISITS : GlobT K mg "VISITS" a_VISITS vVISITS := globT_of (PySem.W.mg_of X G hu0VISITS) hu1VISITS hu2VISITS (by decide)
  have TB : TxtW mg t1 t2 t3 t4 := ⟨PySem.W.mg_of X G hgMOST_LETTERS, PySem.W.mg_of X G hgLEAST_NARROW, PySem.W.mg_of X G hgMOST_PACE, PySem.W.mg_of X G hgMOST_IN_TWO_EVENTS⟩
  have n_any := PySem.W.mg_none_of X G hqany
  have n_zip := PySem.W.mg_none_of X G hqzip
  have n_list := PySem.W.mg_none_of X G hqlist
  have WT : WorldT K C_World := ⟨⟨hwpg, hwhd, hwpo, hwsa⟩, hwnnarrow, hwnwide, hwncolumns, hwnprograms⟩
  have cis_integer : Cal l.prog w K mg base 1 "is_integer" P_is_integer spIsInt := ⟨fis_integer, _, ok_is_integer Fis_integer T, bis_integer, PySem.W.mg_of X G hais_integer, hkis_integer⟩
  have cKind : CalK l.prog w K mg base C := ⟨fKind___init__, _, ⟨hmk, haKind___init__, hiKind___init__, hkc⟩, ok_Kind FKind___init__ KT cis_integer, bKind___init__, PySem.W.mg_of X G haC⟩
  have cis_between : Cal l.prog w K mg base 2 "is_between" P_is_between spBtw := ⟨fis_between, _, ok_btw Fis_between cis_integer, bis_between, PySem.W.mg_of X G hais_between, hkis_between⟩
  have cis_name : Cal l.prog w K mg base 1 "is_name" P_is_name spName := ⟨fis_name, _, ok_name Fis_name T n_str TB, bis_name, PySem.W.mg_of X G hais_name, hkis_name⟩
  have cis_tuple_of : Cal l.prog w K mg base 1 "is_tuple_of" P_is_tuple_of spTupOf := ⟨fis_tuple_of, _, ok_tupof Fis_tuple_of T, bis_tuple_of, PySem.W.mg_of X G hais_tuple_of, hkis_tuple_of⟩
  have cAscT : Cal l.prog w K mg base 1 "is_ascending" P_is_ascending (spAscT K) := ⟨fis_ascending, _, ok_ascT Fis_ascending T n_zip, bis_ascending, PySem.W.mg_of X G hais_ascending, hkis_ascending⟩
  have cAscL : Cal l.prog w K mg base 1 "is_ascending" P_is_ascending (spAscL K) := ⟨fis_ascending, _, ok_ascL Fis_ascending T n_zip, bis_ascending, PySem.W.mg_of X G hais_ascending, hkis_ascending⟩
  have cAscD : Cal l.prog w K mg base 1 "is_ascending" P_is_ascending spAscD := ⟨fis_ascending, _, ok_ascD Fis_ascending T n_zip, bis_ascending, PySem.W.mg_of X G hais_ascending, hkis_ascending⟩
  have cKind___eq__ : CalN l.prog w K mg base  C 1 "__eq__" P_Kind___eq__ (spCmp C eqB) := ⟨fKind___eq__, _, ⟨haKind___eq__, hiKind___eq__, hkKind___eq__⟩, ok_eq FKind___eq__ T KT KO gKind, bKind___eq__⟩
  have cKind___le__ : CalN l.prog w K mg base  C 1 "__le__" P_Kind___le__ (spCmp C leB) := ⟨fKind___le__, _, ⟨haKind___le__, hiKind___le__, hkKind___le__⟩, ok_le FKind___le__ T KT KO gKind, bKind___le__⟩
  have cKind___lt__ : CalN l.prog w K mg base  C 2 "__lt__" P_Kind___lt__ (spCmp C ltB) := ⟨fKind___lt__, _, ⟨haKind___lt__, hiKind___lt__, hkKind___lt__⟩, ok_lt FKind___lt__ T KT KO gKind cKind___le__ cKind___eq__, bKind___lt__⟩
  have c_are_kinds : Cal l.prog w K mg base 3 "_are_kinds" P__are_kinds (spKinds C) := ⟨f_are_kinds, _, ok_kinds F_are_kinds T TB KT KO gKind cKind___lt__, b_are_kinds, PySem.W.mg_of X G ha_are_kinds, hk_are_kinds⟩
  have c_are_columns : Cal l.prog w K mg base 2 "_are_columns" P__are_columns spCols := ⟨f_are_columns, _, ok_cols F_are_columns T cis_tuple_of cis_name cAscT, b_are_columns, PySem.W.mg_of X G ha_are_columns, hk_are_columns⟩
  have c_is_read : Cal l.prog w K mg base 2 "_is_read" P__is_read spRead := ⟨f_is_read, _, ok_rd F_is_read T GT_READ_SIDES GT_DEEDS cAscT, b_is_read, PySem.W.mg_of X G ha_is_read, hk_is_read⟩
  have c_is_write : Cal l.prog w K mg base 3 "_is_write" P__is_write (spWrite K) := ⟨f_is_write, _, ok_wr F_is_write T TB GT_HOWS GT_RULES cis_between, b_is_write, PySem.W.mg_of X G ha_is_write, hk_is_write⟩
  have c_are_rows : Cal l.prog w K mg base 2 "_are_rows" P__are_rows spRows := ⟨f_are_rows, _, ok_rows F_are_rows T cis_tuple_of cAscL, b_are_rows, PySem.W.mg_of X G ha_are_rows, hk_are_rows⟩
  have c_is_edition : Cal l.prog w K mg base 4 "_is_edition" P__is_edition spEd := ⟨f_is_edition, _, ok_ed F_is_edition T GT_SIDES cis_tuple_of c_are_rows c_is_read c_is_write, b_is_edition, PySem.W.mg_of X G ha_is_edition, hk_is_edition⟩
  have c_is_first_edition : Cal l.prog w K mg base 1 "_is_first_edition" P__is_first_edition spFirst := ⟨f_is_first_edition, _, ok_first F_is_first_edition T, b_is_first_edition, PySem.W.mg_of X G ha_is_first_edition, hk_is_first_edition⟩
  have c_is_program : Cal l.prog w K mg base 5 "_is_program" P__is_program spPg := ⟨f_is_program, _, ok_pg F_is_program T cis_tuple_of cis_name c_is_edition c_is_first_edition, b_is_program, PySem.W.mg_of X G ha_is_program, hk_is_program⟩
  have c_many_in_two_events : Cal l.prog w K mg base 1 "_many_in_two_events" P__many_in_two_events spMany := ⟨f_many_in_two_events, _, ok_many F_many_in_two_events T GT_IN_TWO_EVENTS, b_many_in_two_events, PySem.W.mg_of X G ha_many_in_two_events, hk_many_in_two_events⟩
  have c_are_programs : Cal l.prog w K mg base 6 "_are_programs" P__are_programs spPgs := ⟨f_are_programs, _, ok_pgs F_are_programs T TB cis_tuple_of c_is_program cAscL c_many_in_two_events, b_are_programs, PySem.W.mg_of X G ha_are_programs, hk_are_programs⟩
  have cWorld : CalW l.prog w K mg base C C_World := ⟨fWorld___init__, _, ⟨hwmk, haWorld___init__, hiWorld___init__, hwkc⟩, ok_Wd FWorld___init__ T WT c_are_kinds c_are_columns c_are_programs, bWorld___init__, PySem.W.mg_of X G hwa⟩
  have ceditions_of : Cal l.prog w K mg base 1 "editions_of" P_editions_of (spEds C C_World) := ⟨feditions_of, _, ok_eds Feditions_of WT, beditions_of, PySem.W.mg_of X G haeditions_of, hkeditions_of⟩
  have cedition_of : Cal l.prog w K mg base 2 "edition_of" P_edition_of (spEdOf C C_World) := ⟨fedition_of, _, ok_edof Fedition_of ceditions_of, bedition_of, PySem.W.mg_of X G haedition_of, hkedition_of⟩
  have cis_count : Cal l.prog w K mg base 2 "is_count" P_is_count spCount := ⟨fis_count, _, ok_count Fis_count cis_integer, bis_count, PySem.W.mg_of X G hais_count, hkis_count⟩
  have c_is_late : Cal l.prog w K mg base 3 "_is_late" P__is_late (spIsLate C C_World) := ⟨f_is_late, _, ok_late F_is_late T n_any GT_LATE_WORDS GT_IN_TWO_EVENTS cis_tuple_of cis_count ceditions_of cedition_of, b_is_late, PySem.W.mg_of X G ha_is_late, hk_is_late⟩
  have c_are_late : Cal l.prog w K mg base 4 "_are_late" P__are_late (spLates C C_World) := ⟨f_are_late, _, ok_lates F_are_late T c_is_late cAscD, b_are_late, PySem.W.mg_of X G ha_are_late, hk_are_late⟩
  have c_is_top : Cal l.prog w K mg base 3 "_is_top" P__is_top (spTop C C_World) := ⟨f_is_top, _, ok_top F_is_top WT KT cis_between, b_is_top, PySem.W.mg_of X G ha_is_top, hk_is_top⟩
  have cis_mark : Cal l.prog w K mg base 5 "is_mark" P_is_mark (spMark C C_World) := ⟨fis_mark, _, ok_mark Fis_mark T GT_MEANT GT_NARROW_WORDS GT_WIDE_WORDS GT_VISITS cis_tuple_of c_is_top c_are_late, bis_mark, PySem.W.mg_of X G hais_mark, hkis_mark⟩
  have ckin_of : Cal l.prog w K mg base 1 "kin_of" P_kin_of spKin := ⟨fkin_of, _, ok_kin Fkin_of, bkin_of, PySem.W.mg_of X G hakin_of, hkkin_of⟩
  have cis_less : Cal l.prog w K mg base 2 "is_less" P_is_less spLess := ⟨fis_less, _, ok_less Fis_less T ckin_of, bis_less, PySem.W.mg_of X G hais_less, hkis_less⟩
  have cwithin : Cal l.prog w K mg base 6 "within" P_within (spWithin C C_World) := ⟨fwithin, _, ok_within Fwithin cis_mark cis_less, bwithin, PySem.W.mg_of X G hawithin, hkwithin⟩
  have c_law_take : Cal l.prog w K mg base 1 "_law_take" P__law_take spTake := ⟨f_law_take, _, ok_take F_law_take T, b_law_take, PySem.W.mg_of X G ha_law_take, hk_law_take⟩
  have c_law_of : Cal l.prog w K mg base 2 "_law_of" P__law_of spOf := ⟨f_law_of, _, ok_of F_law_of T c_law_take, b_law_of, PySem.W.mg_of X G ha_law_of, hk_law_of⟩
  have c_law_pot_of : Cal l.prog w K mg base 1 "_law_pot_of" P__law_pot_of (spPotOf K) := ⟨f_law_pot_of, _, ok_pot_of F_law_pot_of T, b_law_pot_of, PySem.W.mg_of X G ha_law_pot_of, hk_law_pot_of⟩
  have c_law_in_order : Cal l.prog w K mg base 1 "_law_in_order" P__law_in_order spInOrder := ⟨f_law_in_order, _, ok_inorder F_law_in_order T, b_law_in_order, PySem.W.mg_of X G ha_law_in_order, hk_law_in_order⟩
  have c_law_made : Cal l.prog w K mg base 9 "_law_made" P__law_made (spMade C C_World) := ⟨f_law_made, _, ok_made F_law_made cKind cWorld, b_law_made, PySem.W.mg_of X G ha_law_made, hk_law_made⟩
  have c_law_late_world : Cal l.prog w K mg base 3 "_law_late_world" P__law_late_world spLateW := ⟨f_law_late_world, _, ok_latew F_law_late_world T c_law_of c_law_take, b_law_late_world, PySem.W.mg_of X G ha_law_late_world, hk_law_late_world⟩
  have c_law_any_mark : Cal l.prog w K mg base 3 "_law_any_mark" P__law_any_mark spAny := ⟨f_law_any_mark, _, ok_any F_law_any_mark T c_law_of c_law_take c_law_in_order, b_law_any_mark, PySem.W.mg_of X G ha_law_any_mark, hk_law_any_mark⟩
  have c_law_own_within : Cal l.prog w K mg base 1 "_law_own_within" P__law_own_within spOwn := ⟨f_law_own_within, _, ok_own F_law_own_within T, b_law_own_within, PySem.W.mg_of X G ha_law_own_within, hk_law_own_within⟩
  have c_law_near : Cal l.prog w K mg base 4 "_law_near" P__law_near spNear := ⟨f_law_near, _, ok_near F_law_near T c_law_of c_law_take c_law_any_mark, b_law_near, PySem.W.mg_of X G ha_law_near, hk_law_near⟩
  exact ok_law Flaw T n_list c_law_pot_of c_law_of c_law_late_world c_law_made c_law_any_mark c_law_near cwithin c_law_own_within
end Zg

open PySem PySem.W PyProof.Rows in
set_option maxRecDepth 100000 in
set_option maxHeartbeats 0 in
theorem PySem.Challenge.cw_widerkeys_k36_marks_within_marks_holds : PySem.Challenge.rw_widerkeys_k36_marks_within_marks.Holds := by
  w_on; o_law; k_head; (case hw => w_witness2)
  k_fill
  refine Zg.walkG (l := PySem.Challenge.rw_widerkeys_k36_marks_within_marks) (sp := Zg.spLaw) (x := "_law_script") (k := 10) rfl (by decide) rfl ⟨rfl, by decide, by decide⟩ (fun w h Y => PySem.W.kIn_of Y) ?F (fun K H a ns hl hS => ⟨a, ns, rfl, hS, hl, fun _ => rfl⟩)
  case F =>
    intro w mg fa h KX G hmg
    refine' Zg.all_mk KX G hmg ?haC ?hpg ?hhd ?hpo ?hsa ?hmk ?hkc ?hnlow ?hnhigh ?hnsize ?heStr ?hgMOST_LETTERS ?hgLEAST_NARROW ?hgMOST_PACE ?hgMOST_IN_TWO_EVENTS ?hwa ?hwpg ?hwhd ?hwpo ?hwsa ?hwmk ?hwkc ?hwnnarrow ?hwnwide ?hwncolumns ?hwnprograms ?hqany ?hqzip ?hqlist ?hu0READ_SIDES ?hu1READ_SIDES ?hu2READ_SIDES ?hu0DEEDS ?hu1DEEDS ?hu2DEEDS ?hu0HOWS ?hu1HOWS ?hu2HOWS ?hu0RULES ?hu1RULES ?hu2RULES ?hu0SIDES ?hu1SIDES ?hu2SIDES ?hu0IN_TWO_EVENTS ?hu1IN_TWO_EVENTS ?hu2IN_TWO_EVENTS ?hu0MEANT ?hu1MEANT ?hu2MEANT ?hu0NARROW_WORDS ?hu1NARROW_WORDS ?hu2NARROW_WORDS ?hu0WIDE_WORDS ?hu1WIDE_WORDS ?hu2WIDE_WORDS ?hu0LATE_WORDS ?hu1LATE_WORDS ?hu2LATE_WORDS ?hu0VISITS ?hu1VISITS ?hu2VISITS ?heO1 ?heO4 ?heO5 ?heO6 ?heW4 ?heW5 ?hais_integer ?hlis_integer ?hcis_integer ?hkis_integer ?hais_between ?hlis_between ?hcis_between ?hkis_between ?hais_name ?hlis_name ?hcis_name ?hkis_name ?hais_tuple_of ?hlis_tuple_of ?hcis_tuple_of ?hkis_tuple_of ?hais_ascending ?hlis_ascending ?hcis_ascending ?hkis_ascending ?hais_count ?hlis_count ?hcis_count ?hkis_count ?haeditions_of ?hleditions_of ?hceditions_of ?hkeditions_of ?haedition_of ?hledition_of ?hcedition_of ?hkedition_of ?hais_less ?hlis_less ?hcis_less ?hkis_less ?hakin_of ?hlkin_of ?hckin_of ?hkkin_of ?haKind___init__ ?hiKind___init__ ?hlKind___init__ ?hcKind___init__ ?hkKind___init__ ?haKind___le__ ?hiKind___le__ ?hlKind___le__ ?hcKind___le__ ?hkKind___le__ ?haKind___lt__ ?hiKind___lt__ ?hlKind___lt__ ?hcKind___lt__ ?hkKind___lt__ ?haKind___eq__ ?hiKind___eq__ ?hlKind___eq__ ?hcKind___eq__ ?hkKind___eq__ ?haWorld___init__ ?hiWorld___init__ ?hlWorld___init__ ?hcWorld___init__ ?hkWorld___init__ ?ha_are_kinds ?hl_are_kinds ?hc_are_kinds ?hk_are_kinds ?ha_are_columns ?hl_are_columns ?hc_are_columns ?hk_are_columns ?ha_are_programs ?hl_are_programs ?hc_are_programs ?hk_are_programs ?ha_is_program ?hl_is_program ?hc_is_program ?hk_is_program ?ha_is_edition ?hl_is_edition ?hc_is_edition ?hk_is_edition ?ha_are_rows ?hl_are_rows ?hc_are_rows ?hk_are_rows ?ha_is_read ?hl_is_read ?hc_is_read ?hk_is_read ?ha_is_write ?hl_is_write ?hc_is_write ?hk_is_write ?ha_is_first_edition ?hl_is_first_edition ?hc_is_first_edition ?hk_is_first_edition ?ha_many_in_two_events ?hl_many_in_two_events ?hc_many_in_two_events ?hk_many_in_two_events ?hais_mark ?hlis_mark ?hcis_mark ?hkis_mark ?hawithin ?hlwithin ?hcwithin ?hkwithin ?ha_is_top ?hl_is_top ?hc_is_top ?hk_is_top ?ha_are_late ?hl_are_late ?hc_are_late ?hk_are_late ?ha_is_late ?hl_is_late ?hc_is_late ?hk_is_late ?ha_law_pot_of ?hl_law_pot_of ?hc_law_pot_of ?hk_law_pot_of ?ha_law_take ?hl_law_take ?hc_law_take ?hk_law_take ?ha_law_of ?hl_law_of ?hc_law_of ?hk_law_of ?ha_law_in_order ?hl_law_in_order ?hc_law_in_order ?hk_law_in_order ?ha_law_made ?hl_law_made ?hc_law_made ?hk_law_made ?ha_law_late_world ?hl_law_late_world ?hc_law_late_world ?hk_law_late_world ?ha_law_any_mark ?hl_law_any_mark ?hc_law_any_mark ?hk_law_any_mark ?ha_law_own_within ?hl_law_own_within ?hc_law_own_within ?hk_law_own_within ?ha_law_near ?hl_law_near ?hc_law_near ?hk_law_near ?halaw ?hllaw ?hclaw ?hklaw ?hzint ?hzlen ?hzabs ?hzbool ?hztuple ?hzisinstance ?hzrange ?hzmax ?hzmin ?hzall ?hzrepr
    (case haC => k_is)
    (case hpg => k_is)
    (case hhd => k_is)
    (case hpo => k_is)
    (case hsa => k_is)
    (case hmk => k_is)
    (case hkc => k_is)
    (case hnlow => k_is)
    (case hnhigh => k_is)
    (case hnsize => k_is)
    (case heStr => k_is)
    (case hgMOST_LETTERS => k_is)
    (case hgLEAST_NARROW => k_is)
    (case hgMOST_PACE => k_is)
    (case hgMOST_IN_TWO_EVENTS => k_is)
    (case hwa => k_is)
    (case hwpg => k_is)
    (case hwhd => k_is)
    (case hwpo => k_is)
    (case hwsa => k_is)
    (case hwmk => k_is)
    (case hwkc => k_is)
    (case hwnnarrow => k_is)
    (case hwnwide => k_is)
    (case hwncolumns => k_is)
    (case hwnprograms => k_is)
    (case hqany => k_is)
    (case hqzip => k_is)
    (case hqlist => k_is)
    (case hu0READ_SIDES => k_is)
    (case hu1READ_SIDES => k_is)
    (case hu2READ_SIDES => first | rfl | kernel_rfl)
    (case hu0DEEDS => k_is)
    (case hu1DEEDS => k_is)
    (case hu2DEEDS => first | rfl | kernel_rfl)
    (case hu0HOWS => k_is)
    (case hu1HOWS => k_is)
    (case hu2HOWS => first | rfl | kernel_rfl)
    (case hu0RULES => k_is)
    (case hu1RULES => k_is)
    (case hu2RULES => first | rfl | kernel_rfl)
    (case hu0SIDES => k_is)
    (case hu1SIDES => k_is)
    (case hu2SIDES => first | rfl | kernel_rfl)
    (case hu0IN_TWO_EVENTS => k_is)
    (case hu1IN_TWO_EVENTS => k_is)
    (case hu2IN_TWO_EVENTS => first | rfl | kernel_rfl)
    (case hu0MEANT => k_is)
    (case hu1MEANT => k_is)
    (case hu2MEANT => first | rfl | kernel_rfl)
    (case hu0NARROW_WORDS => k_is)
    (case hu1NARROW_WORDS => k_is)
    (case hu2NARROW_WORDS => first | rfl | kernel_rfl)
    (case hu0WIDE_WORDS => k_is)
    (case hu1WIDE_WORDS => k_is)
    (case hu2WIDE_WORDS => first | rfl | kernel_rfl)
    (case hu0LATE_WORDS => k_is)
    (case hu1LATE_WORDS => k_is)
    (case hu2LATE_WORDS => first | rfl | kernel_rfl)
    (case hu0VISITS => k_is)
    (case hu1VISITS => k_is)
    (case hu2VISITS => first | rfl | kernel_rfl)
    (case heO1 => k_is)
    (case heO4 => k_is)
    (case heO5 => k_is)
    (case heO6 => k_is)
    (case heW4 => k_is)
    (case heW5 => k_is)
    (case hais_integer => k_is)
    (case hlis_integer => k_is)
    (case hcis_integer => k_is)
    (case hkis_integer => k_is)
    (case hais_between => k_is)
    (case hlis_between => k_is)
    (case hcis_between => k_is)
    (case hkis_between => k_is)
    (case hais_name => k_is)
    (case hlis_name => k_is)
    (case hcis_name => k_is)
    (case hkis_name => k_is)
    (case hais_tuple_of => k_is)
    (case hlis_tuple_of => k_is)
    (case hcis_tuple_of => k_is)
    (case hkis_tuple_of => k_is)
    (case hais_ascending => k_is)
    (case hlis_ascending => k_is)
    (case hcis_ascending => k_is)
    (case hkis_ascending => k_is)
    (case hais_count => k_is)
    (case hlis_count => k_is)
    (case hcis_count => k_is)
    (case hkis_count => k_is)
    (case haeditions_of => k_is)
    (case hleditions_of => k_is)
    (case hceditions_of => k_is)
    (case hkeditions_of => k_is)
    (case haedition_of => k_is)
    (case hledition_of => k_is)
    (case hcedition_of => k_is)
    (case hkedition_of => k_is)
    (case hais_less => k_is)
    (case hlis_less => k_is)
    (case hcis_less => k_is)
    (case hkis_less => k_is)
    (case hakin_of => k_is)
    (case hlkin_of => k_is)
    (case hckin_of => k_is)
    (case hkkin_of => k_is)
    (case haKind___init__ => k_is)
    (case hiKind___init__ => k_is)
    (case hlKind___init__ => k_is)
    (case hcKind___init__ => k_is)
    (case hkKind___init__ => k_is)
    (case haKind___le__ => k_is)
    (case hiKind___le__ => k_is)
    (case hlKind___le__ => k_is)
    (case hcKind___le__ => k_is)
    (case hkKind___le__ => k_is)
    (case haKind___lt__ => k_is)
    (case hiKind___lt__ => k_is)
    (case hlKind___lt__ => k_is)
    (case hcKind___lt__ => k_is)
    (case hkKind___lt__ => k_is)
    (case haKind___eq__ => k_is)
    (case hiKind___eq__ => k_is)
    (case hlKind___eq__ => k_is)
    (case hcKind___eq__ => k_is)
    (case hkKind___eq__ => k_is)
    (case haWorld___init__ => k_is)
    (case hiWorld___init__ => k_is)
    (case hlWorld___init__ => k_is)
    (case hcWorld___init__ => k_is)
    (case hkWorld___init__ => k_is)
    (case ha_are_kinds => k_is)
    (case hl_are_kinds => k_is)
    (case hc_are_kinds => k_is)
    (case hk_are_kinds => k_is)
    (case ha_are_columns => k_is)
    (case hl_are_columns => k_is)
    (case hc_are_columns => k_is)
    (case hk_are_columns => k_is)
    (case ha_are_programs => k_is)
    (case hl_are_programs => k_is)
    (case hc_are_programs => k_is)
    (case hk_are_programs => k_is)
    (case ha_is_program => k_is)
    (case hl_is_program => k_is)
    (case hc_is_program => k_is)
    (case hk_is_program => k_is)
    (case ha_is_edition => k_is)
    (case hl_is_edition => k_is)
    (case hc_is_edition => k_is)
    (case hk_is_edition => k_is)
    (case ha_are_rows => k_is)
    (case hl_are_rows => k_is)
    (case hc_are_rows => k_is)
    (case hk_are_rows => k_is)
    (case ha_is_read => k_is)
    (case hl_is_read => k_is)
    (case hc_is_read => k_is)
    (case hk_is_read => k_is)
    (case ha_is_write => k_is)
    (case hl_is_write => k_is)
    (case hc_is_write => k_is)
    (case hk_is_write => k_is)
    (case ha_is_first_edition => k_is)
    (case hl_is_first_edition => k_is)
    (case hc_is_first_edition => k_is)
    (case hk_is_first_edition => k_is)
    (case ha_many_in_two_events => k_is)
    (case hl_many_in_two_events => k_is)
    (case hc_many_in_two_events => k_is)
    (case hk_many_in_two_events => k_is)
    (case hais_mark => k_is)
    (case hlis_mark => k_is)
    (case hcis_mark => k_is)
    (case hkis_mark => k_is)
    (case hawithin => k_is)
    (case hlwithin => k_is)
    (case hcwithin => k_is)
    (case hkwithin => k_is)
    (case ha_is_top => k_is)
    (case hl_is_top => k_is)
    (case hc_is_top => k_is)
    (case hk_is_top => k_is)
    (case ha_are_late => k_is)
    (case hl_are_late => k_is)
    (case hc_are_late => k_is)
    (case hk_are_late => k_is)
    (case ha_is_late => k_is)
    (case hl_is_late => k_is)
    (case hc_is_late => k_is)
    (case hk_is_late => k_is)
    (case ha_law_pot_of => k_is)
    (case hl_law_pot_of => k_is)
    (case hc_law_pot_of => k_is)
    (case hk_law_pot_of => k_is)
    (case ha_law_take => k_is)
    (case hl_law_take => k_is)
    (case hc_law_take => k_is)
    (case hk_law_take => k_is)
    (case ha_law_of => k_is)
    (case hl_law_of => k_is)
    (case hc_law_of => k_is)
    (case hk_law_of => k_is)
    (case ha_law_in_order => k_is)
    (case hl_law_in_order => k_is)
    (case hc_law_in_order => k_is)
    (case hk_law_in_order => k_is)
    (case ha_law_made => k_is)
    (case hl_law_made => k_is)
    (case hc_law_made => k_is)
    (case hk_law_made => k_is)
    (case ha_law_late_world => k_is)
    (case hl_law_late_world => k_is)
    (case hc_law_late_world => k_is)
    (case hk_law_late_world => k_is)
    (case ha_law_any_mark => k_is)
    (case hl_law_any_mark => k_is)
    (case hc_law_any_mark => k_is)
    (case hk_law_any_mark => k_is)
    (case ha_law_own_within => k_is)
    (case hl_law_own_within => k_is)
    (case hc_law_own_within => k_is)
    (case hk_law_own_within => k_is)
    (case ha_law_near => k_is)
    (case hl_law_near => k_is)
    (case hc_law_near => k_is)
    (case hk_law_near => k_is)
    (case halaw => k_is)
    (case hllaw => k_is)
    (case hclaw => k_is)
    (case hklaw => k_is)
    (case hzint => k_is)
    (case hzlen => k_is)
    (case hzabs => k_is)
    (case hzbool => k_is)
    (case hztuple => k_is)
    (case hzisinstance => k_is)
    (case hzrange => k_is)
    (case hzmax => k_is)
    (case hzmin => k_is)
    (case hzall => k_is)
    (case hzrepr => k_is)
#print axioms PySem.Challenge.cw_widerkeys_k36_marks_within_marks_holds
