import PyProof.Rows.All
import Wide.All
import OpenK.AllK
import Wide.FinOn
import PyProof.ReprRoads
import HandS.Base
import HandS.Call
import HandS.List
import HandS.Comp
import HandS.Ends
import HandS.Words
import HandS.ForMost
import HandS.Wide
import HandS.IsInst
import HandS.TupAny
import HandS.Zip
import HandS.Dict
import HandS.Codes
import HandS.Text
import HandS.Style
import HandS.TryOnly
import HandS.FStr
import HandS.StrMore
import HandS.Deep
import KE.DatumMoreOrd
import HandS.TupLe
import HandS.SlotsOwn
import HandS.More
import HandS.TupMul
import HandS.RaiseMore
import KE.GoesMore
import KE.GoesEnum
import HandS.ForExc
import HandS.ExcField
import HandS.ExcInit
import KE.KExcIs
import HandS.ExcIs
import HandS.HeadHook3
import PyProof.InstNe
import HandS.CallLocal
import HandS.DictComp
import HandS.WrittenGet
import OpenK.KMore
import PyProof.Rows.SortStr
import HandS.Head0
import HandS.Head1
import HandS.Head2
import HandS.HeadHook1
import HandS.HeadHook2
import HandS.HeadHook4
import PyProof.ReprBulk
import PySem.Challenge.RW_widerkeys_k13_what_is_a_step
set_option Elab.async false
set_option linter.all false
set_option maxRecDepth 100000
set_option maxHeartbeats 8000000
/-! General rules: powers of great numbers, the text of data (repr), defs whose callers run no repr. -/
namespace Zg
open PySem PySem.Spec PyProof.Rows L2

/-! ### powers -/
def CPowZ (i j : Int) : Prop := 0 ≤ j ∧ (Builtin.Int.intBits i : Int) * j ≤ 2 ^ 27
theorem op_powZ {X : Cx} : OpR X (binaryOp .Pow) (rI CPowZ fun i j => .int (i ^ j.toNat)) :=
  opI fun _ _ _ _ _ _ _ hc q => pow_int hc.1 hc.2 q

/-! ### no repr runs around -/
/-- no repr runs around -/
def Calm (A : Around) : Prop := A.guards = some []
theorem Calm.deeper {A : Around} {env : Env} (h : Calm A) : Calm (A.deeper env) := h

/-- repr(x), x data at any depth -/
def rReprD (K : PySem.W.Frag) : List V → Hp → VK → Prop := fun xs H Q =>
  ∃ (x : V) (d : PyData), xs = [x] ∧ Dp K H x d ∧ d.showable = true ∧ d.hasDict = false ∧
    d.depth ≤ 64 ∧ d.shown.length ≤ sizeLine ∧ (∀ i, x = .int i → i.natAbs.log2 < 1920) ∧ Q (.str d.shown) H
theorem call_reprD {X : Cx} (hg : Calm X.A) (hu : X.A.units + 70 < cLine) : CallR X (.builtin "repr") (rReprD X.K) := by
  intro pins s σ H xs us Q I r h
  obtain ⟨x, d, rfl, hd, hs, hn, hdep, hsz, hi, q⟩ := h
  obtain ⟨u, rfl, rx⟩ := vals1 r
  obtain ⟨as, rd⟩ := Dp.reads I d x u hd rx
  have nod : d.hasDict = true → sysModules ∉ as := fun z => by rw [hn] at z; cases z
  cases hd with
  | non =>
    cases rx
    exact PySem.P.repr_of_none ⟨.str _, H, I.tok _, ⟨_, rfl⟩, q⟩
  | bl b =>
    cases rx
    refine PySem.P.repr_of_bool ⟨.str _, H, I.tok _, ⟨_, rfl⟩, ?_⟩
    cases b <;> exact q
  | int i =>
    obtain ⟨t, rfl⟩ := rx
    exact PySem.P.repr_of_int (hi i rfl) ⟨.str _, H, I.tok _, ⟨_, rfl⟩, q⟩
  | str z =>
    obtain ⟨t, rfl⟩ := rx
    exact PySem.P.repr_of_str ⟨.str _, H, I.tok _, ⟨_, rfl⟩, q⟩ hsz
  | lst h1 h2 =>
    cases rx
    refine repr_of_reads' rd hs nod hg (by omega) (fun _ _ e => e) (fun h' u tk hk => ?_) hsz
    exact ⟨.str _, H, I.kept (t' := tk) hk, ⟨_, rfl⟩, q⟩
  | tup h1 h2 =>
    cases rx
    refine repr_of_reads' rd hs nod hg (by omega) (fun _ _ e => e) (fun h' u tk hk => ?_) hsz
    exact ⟨.str _, H, I.kept (t' := tk) hk, ⟨_, rfl⟩, q⟩

/-! ### defs that are called where no repr runs -/
section
variable {P : Program} {w : World} {K : PySem.W.Frag} {mg : Str → Option Value} {base : Heap} {CX : CXT} {k : Nat} {f : Addr} {fd : FuncData} {ps : List Str} {sp : Sp}
/-- a def keeps its promise wherever it is called with no repr around -/
structure FnG (P : Program) (w : World) (K : PySem.W.Frag) (mg : Str → Option Value) (base : Heap) (CX : CXT)
    (k : Nat) (f : Addr) (fd : FuncData) (ps : List Str) (sp : Sp) : Prop where
  many : ∀ vs H Q E, sp vs H Q E → vs.length = ps.length
  goes : ∀ (A : Around), Calm A → ∀ (fr : List Env) (s : Shared) (H : Hp) (args : Args) (us : List Value) (vs : List V) (Q : VK) (E : XK),
    Room k A → Env0 P w K mg base A fr s H → BindsTo s fd args (ps.zip us) → Vals vs us → sp vs H Q E →
      codeAny (model P w) A (.call (.ref f) args) (CR CX fr P w H s Q E) s
theorem FnG.of (F : FnOk P w K mg base CX k f fd ps sp) : FnG P w K mg base CX k f fd ps sp :=
  ⟨F.len, fun A _ fr s H args us vs Q E r e b v h => F.run A fr s H args us vs Q E r e b v h⟩
theorem FnG.up {j : Nat} (F : FnG P w K mg base CX j f fd ps sp) (h : j ≤ k) : FnG P w K mg base CX k f fd ps sp :=
  ⟨F.many, fun A c fr s H args us vs Q E r => F.goes A c fr s H args us vs Q E (r.mono h)⟩

/-- a def of the text, by its body, with no repr around -/
theorem Fun_okG {x qual : Str} {st : Stmt} {N : List Str} (F : Fun K x qual st f fd) (S : FnScope N ps (defScope st)) (len : ∀ vs H Q E, sp vs H Q E → vs.length = ps.length)
    (hbody : ∀ (cd : Value) (A : Around) (fr : List Env) (s : Shared) (H : Hp) (vs : List V) (Q : VK) (E : XK), Calm A →
      Room k (A.deeper (envOfC qual (defScope st) s.heap.objs.size f cd)) → sp vs H Q E →
        ∃ t, PSs (cxOf CX P w K mg base N qual (defScope st) f cd A fr s H E).nox (defBody st) t ∧ t { nx := fun _ H' => Q .non H', rt := Q } (start N vs) H) :
    FnG P w K mg base CX (k + 1) f fd ps sp := by
  obtain ⟨oc, od, kw, doc, pm, an, cd, ct, osl, rfl, at_f, hcd⟩ := F.ex
  constructor
  · exact len
  intro A calm fr s H args us vs Q E room e0 binds rel hsp
  have hlen := len _ _ _ _ hsp
  have stays : ∀ b o, base.get? b = some o → s.heap.get? b = some o := fun b o e => (e0.bs b o e).1
  refine codeAny_call_function room.depth (e0.mod.kin.keeps stays _ _ at_f) rfl S.co S.gen rfl (PySem.W.codeRec_of (e0.mod.kin.keeps stays) hcd) (binds _ _ _ _ ?_)
  refine wpAny_newFunctionEnv_cells S.kind (fun ⟨n, v⟩ hy => ?_) fun env he s1 inC => ?_
  · cases S.par n (List.of_mem_zip hy).1 with
    | inl z => exact .inl z
    | inr z => exact .inr ⟨z, PySem.W.cellsFrom_some _ _ _ (.inl z)⟩
  subst he
  refine ⟨(e0.mod.nolimit.keeps stays).keeps inC.toInCall.keep, codeAny_func ?_⟩
  obtain ⟨t, ht, hq⟩ := hbody cd A fr s H vs Q E calm (room.deeper _) hsp
  refine wpAny_mono (ht.nox.run [] s1 (start N vs) H _ (inv_start (CX := CX) S room.hd e0 hlen rel inC) hq) (fun fl s' z => ?_) fun _ _ z => z
  match fl, z with
  | .ret _, ⟨v, _, H', J, rv, q⟩ => exact ⟨v, H', J.os, J.bare, J.base, J.hok, rv, q⟩
  | .next, ⟨_, H', J, q⟩ => exact ⟨.non, H', J.os, J.bare, J.base, J.hok, rfl, q⟩
  | .brk, ⟨_, _, _, q⟩ => exact q.elim
  | .cont, ⟨_, _, _, q⟩ => exact q.elim
end

section
variable {X : Cx} {CX : CXT} {k : Nat} {f : Addr} {fd : FuncData} {ps : List Str} {sp : Sp} {E : XK} {x : Str} {p pos : Pos} {e : Expr} {es : List Expr} {t : TA}
/-- f(e, ..) where no repr runs -/
theorem pe_callG (c : Calm X.A) (F : FnG X.prog X.w X.K X.mg X.base CX k f fd ps sp) (hr : Room k X.A) (hg : Gl X x) (hm : X.mg x = some (.ref f)) (hk : PySem.W.keepIn X.K (.ref f) = true)
    (hb : Binds X.K fd ps []) (hx : Passes CX X E) (ha : PA X (e :: es) t) (hdb : (x == ("__debug__" : Str)) = false := by decide)
    (he : starEach (e :: es) X.env = (false, eval e X.env) :: starEach es X.env := by rfl) (hpl : (backTo pos (starEach es X.env)).any (·.1) = false := by rfl) :
    PE X (.Call (.Name x p) (e :: es) [] pos) (tCall sp [] E t) := by
  constructor
  intro pins s σ H Q I h
  refine wpAny_Call_Name_kw (ld_glob I hg hm (PySem.W.callWith_K (h₀ := X.base) I.ok.mod.kin hk (thn (ha.run pos pins s σ H _ I h) fun us s1 z => ?_) he hpl) hdb)
  obtain ⟨vs, H1, J, rel, q⟩ := z
  have q' : sp vs H1 Q E := by rw [← List.append_nil vs]; exact q
  have hl : (us ++ []).length = ps.length := by rw [List.append_nil, ← rel.length]; exact F.many _ _ _ _ q'
  have b := hb s1 us J.kIn hl
  rw [List.append_nil] at b
  refine ⟨J.kIn, wpAny_call (codeAny_mono (F.goes X.A c X.stack s1 H1 ⟨us, []⟩ us vs Q E hr J.env0 b rel q') fun r s2 z => ?_)⟩
  match r, z with
  | .error _, z => exact hx pins σ H1 s1 _ s2 J z
  | .ok (.ret _), z => exact J.after z
  | .ok .next, z => exact z.elim
  | .ok .brk, z => exact z.elim
  | .ok .cont, z => exact z.elim
end

/-! ### the law's own call -/
/-- the script alone is tracked, or nothing -/
def track (a : Addr) (o : HO) : Hp := fun b => if b = a then some o else none
theorem track_at {a : Addr} {o : HO} : track a o a = some o := if_pos rfl
theorem track_off {a b : Addr} {o : HO} (h : b ≠ a) : track a o b = none := if_neg h

theorem lawG {P : Program} {w : World} {K : PySem.W.Frag} {mg mb : Str → Option Value} {k : Nat} {fa a : Addr} {fd : FuncData} {x : Str} {sp : Sp} {s : Shared} {us : List Value} {ns : List Int}
    (kin : K.In s.heap) (gl : s.heap.Ns mainGlobals mg) (bl : s.heap.Ns builtinsNs mb) (bb : ∀ x : Str, x ≠ "__name__" → mb x = bootBuiltins x) (lim : s.heap.NoLimit) (gens : s.gens = #[])
    (ha : s.heap.get? a = some { cls := .type "list", data := .seq us.toArray }) (whole : IntsAre us ns) (line : ns.length ≤ sizeLine) (room : Room k callerA)
    (F : ∀ base : Heap, K.In base → base.Ns mainGlobals mg → FnG P w K mg base CX0 k fa fd [x] sp)
    (bind : ∀ (s : Shared) (u : Value), BindsTo s fd ⟨[u], []⟩ [(x, u)])
    (hsp : ∀ H : Hp, SqL K H a (ns.map V.int) → sp [.ref a] H (fun v _ => v = .bl true) fun _ _ _ => False) :
    codeAny (model P w) callerA (.call (.ref fa) ⟨[.ref a], []⟩) (fun r s' => r = .ok (.ret (.bool true)) ∧ OldK s.heap s'.heap ∧ s'.os = s.os ∧ AllBare s'.gens) s := by
  have rel := vals_ints whole
  have size := whole.length
  -- H: the script, or nothing; what H does not track is in the base
  have go : ∀ H : Hp, SqL K H a (ns.map V.int) → HOk P w H s.heap → (∀ b u, H b = some u → b = a ∧ K.lookup a = none ∧ ∃ o xs, u = .frz o (.lst xs)) →
      codeAny (model P w) callerA (.call (.ref fa) ⟨[.ref a], []⟩) (fun r s' => r = .ok (.ret (.bool true)) ∧ OldK s.heap s'.heap ∧ s'.os = s.os ∧ AllBare s'.gens) s := by
    intro H hS hok only
    have free : ∀ {b : Addr}, b ≠ a → H b = none := fun {b} hb => by
      cases q : H b with
      | none => rfl
      | some u => exact absurd (only b u q).1 hb
    have notDict : ∀ {b : Addr} {o : Obj} {es : Array DictEntry} {n : Nat}, s.heap.get? b = some o → o.data = .dict es n → b ≠ a := fun {b o es n} e d z => by
      subst z
      rw [ha] at e
      have e' := Option.some.inj e
      subst e'
      cases d
    have keepNs : ∀ {b : Addr} {m : Str → Option Value}, s.heap.Ns b m → (hidT s.heap H).Ns b m := fun {b m} z => by
      obtain ⟨o, es, n, e, d, r⟩ := z
      exact ⟨o, es, n, hidT_get e (free (notDict e d)), d, r⟩
    have kinB : K.In (hidT s.heap H) := fun b o e => hidT_get (kin b o e) (by
      cases q : H b with
      | none => rfl
      | some u =>
        obtain ⟨z, no, _⟩ := only b u q
        rw [z, no] at e
        cases e)
    have limB : (hidT s.heap H).NoLimit := by
      obtain ⟨m, h1, h2⟩ := lim
      exact ⟨m, keepNs h1, h2⟩
    have e0 : Env0 P w K mg (hidT s.heap H) callerA [] s H :=
      { frames := rfl, mod := ⟨kinB, keepNs gl, ⟨mb, keepNs bl, bb⟩, limB⟩, bs := fun b o e => of_hidT e, bsz := Nat.le_of_eq (hidT_size _ _), funs := trivial,
        frf := fun b hb => (List.not_mem_nil (show b ∈ ([] : List Addr) from hb)).elim, hok := hok, bare := .of_eq gens }
    refine codeAny_mono ((F _ kinB (keepNs gl)).goes callerA rfl [] s H ⟨[.ref a], []⟩ [.ref a] [.ref a] _ _ room e0 (bind s (.ref a)) (.cons rfl .nil) (hsp H hS)) fun r s' z => ?_
    match r, z with
    | .error _, z => exact False.elim z
    | .ok .next, z => exact False.elim z
    | .ok .brk, z => exact False.elim z
    | .ok .cont, z => exact False.elim z
    | .ok (.ret u), z =>
      obtain ⟨v, H', os, bare, un, hok', rv, q⟩ := z
      have q' : v = .bl true := q
      subst q'
      obtain rfl : u = Value.bool true := rv
      refine ⟨rfl, OldK.of_keep fun b o e => ?_, os, bare⟩
      cases q : H b with
      | none => exact un.keep b o e q (List.not_mem_nil) (List.not_mem_nil)
      | some u =>
        obtain ⟨_, _, ob, xs, eu⟩ := only b u q
        subst eu
        have h1 := (hok b _ q).1
        have h2 := (hok' b _ (un.frzs b ob _ q)).1
        rw [e] at h1
        rw [h2, ← Option.some.inj h1]
  cases hk : K.lookup a with
  | none =>
    refine go (track a (.frz { cls := .type "list", data := .seq us.toArray } (.lst (ns.map V.int)))) (.inl (.inr ⟨_, track_at⟩)) (fun b u z => ?_) fun b u z => ?_
    · by_cases hb : b = a
      · subst hb
        have z' := track_at.symm.trans z
        cases z'
        exact ⟨ha, by rw [List.length_map]; exact line, us, _, rel, ha⟩
      · rw [track_off hb] at z
        cases z
    · by_cases hb : b = a
      · subst hb
        have z' := track_at.symm.trans z
        cases z'
        exact ⟨rfl, hk, _, _, rfl⟩
      · rw [track_off hb] at z
        cases z
  | some o =>
    have e := kin a o hk
    rw [ha] at e
    have e' := Option.some.inj e
    subst e'
    have small : us.toArray.size ≤ sizeLine := by rw [List.size_toArray, size]; exact line
    refine go (fun _ => none) (.inr ⟨_, us.toArray, _, hk, rfl, rfl, rfl, small, by simpa using rel⟩) (fun b u z => ?_) fun b u z => ?_
    · have z' : (none : Option HO) = some u := z
      cases z'
    · have z' : (none : Option HO) = some u := z
      cases z'

/-- what k_head leaves, from the law's promise -/
theorem walkG {l : PySem.W.OpenLaw} {n k : Nat} {q : Program} {loose : List Str} {XP : (Str → Option Value) → Heap → Prop} {YP : World → Heap → Prop} {d : DefRec} {K : Params → PySem.W.Frag} {sp : PySem.W.Frag → Sp} {x : Str}
    (most : l.most = some n) (line : n ≤ sizeLine) (nodef : d.params.defaults = []) (room : Room k callerA) (hY : ∀ (w : World) (h : Heap), YP w h → (K w.params).In h)
    (F : ∀ (w : World) (mg : Str → Option Value) (fa : Addr) (h : Heap), (K w.params).In h → h.Ns mainGlobals mg → mg d.name = some (.ref fa) →
      ∃ fd : FuncData, (∀ (s : Shared) (u : Value), BindsTo s fd ⟨[u], []⟩ [(x, u)]) ∧
        ∀ base : Heap, (K w.params).In base → base.Ns mainGlobals mg → FnG l.prog w (K w.params) mg base CX0 k fa fd [x] (sp (K w.params)))
    (hsp : ∀ (K : PySem.W.Frag) (H : Hp) (a : Addr) (ns : List Int), ns.length ≤ n → SqL K H a (ns.map V.int) → sp K [.ref a] H (fun v _ => v = .bl true) fun _ _ _ => False) :
    PySem.W.WalkO q loose XP YP l.row.toRowW d [] (fun f vs => PySem.call f vs) := by
  refine Att.attach_call most nodef fun w s0 s1 mg mb fa o pm cd doc a vs ns G Y _ _ _ named obj whole few gens => ?_
  have kin := hY w _ Y
  obtain ⟨fd, bind, all⟩ := F w mg fa _ kin G.T.g named
  exact lawG kin G.T.g G.T.b G.T.builtins G.T.nolimit gens obj whole (Nat.le_trans few line) room all bind fun H hS => hsp _ H a ns few hS
end Zg

namespace Zd
open PySem PySem.Spec PyProof.Rows L2

/-! ### values as trees -/
inductive Dat where
  | non | bl (b : Bool) | int (i : Int) | str (x : Str)
  | tup (ds : List Dat) | lst (ds : List Dat)
  | dic (ks : List Key) (ds : List Dat)
  | obj (c : String) (fs : List Str) (ds : List Dat)
  | loc (n : Nat)
  | ty (n : String) | cls (c : String)
  | scr (ns : List Int)
/-- what is known of the places: the written part, the classes' addresses -/
structure Cz where
  K : PySem.W.Frag
  κ : String → Addr
/-- the places that may be written: shared ones by number, the frame's own ones -/
structure Pl where
  α : List Addr
  ω : List Addr
  γ : List Addr
def Pl.has (p : Pl) (a : Addr) : Prop := a ∈ p.α ∨ a ∈ p.ω ∨ a ∈ p.γ
def LstAt (Z : Cz) (H : Hp) (p : Pl) (a : Addr) (vs : List V) : Prop := H a = some (.lst vs) ∧ ¬ p.has a
def TupAt (Z : Cz) (H : Hp) (p : Pl) (a : Addr) (vs : List V) : Prop := (Rd H a (.tup vs) ∧ ¬ p.has a) ∨ ∀ H', SqT Z.K H' a vs
def DicAt (H : Hp) (p : Pl) (a : Addr) (kvs : List (Key × V)) : Prop := H a = some (.dK kvs) ∧ ¬ p.has a
def ObjAt (H : Hp) (p : Pl) (a C : Addr) (fs : List (Str × V)) : Prop := (∃ dx, H a = some (.ins C dx fs)) ∧ ¬ p.has a
mutual
def IsD (Z : Cz) (H : Hp) (p : Pl) (v : V) : Dat → Prop
  | .non => v = .non
  | .bl b => v = .bl b
  | .int i => v = .int i
  | .str x => v = .str x
  | .ty n => v = .ty n
  | .cls c => v = .ref (Z.κ c)
  | .scr ns => ∃ a, v = .ref a ∧ ((Rd H a (.lst (ns.map V.int)) ∧ ¬ p.has a) ∨ ∀ H', SqL Z.K H' a (ns.map V.int))
  | .tup ds => ∃ a vs, v = .ref a ∧ TupAt Z H p a vs ∧ IsDs Z H p vs ds
  | .lst ds => ∃ a vs, v = .ref a ∧ LstAt Z H p a vs ∧ IsDs Z H p vs ds
  | .dic ks ds => ∃ a vs, v = .ref a ∧ DicAt H p a (ks.zip vs) ∧ ks.length = vs.length ∧ IsDs Z H p vs ds
  | .obj c fs ds => ∃ a vs, v = .ref a ∧ ObjAt H p a (Z.κ c) (fs.zip vs) ∧ fs.length = vs.length ∧ IsDs Z H p vs ds
  | .loc n => ∃ a, v = .ref a ∧ p.α[n]? = some a
def IsDs (Z : Cz) (H : Hp) (p : Pl) (vs : List V) : List Dat → Prop
  | [] => vs = []
  | d :: ds => ∃ v r, vs = v :: r ∧ IsD Z H p v d ∧ IsDs Z H p r ds
end
/-- a container whose top may be the frame's own, its items may not -/
def IsW (Z : Cz) (H : Hp) (p : Pl) (v : V) : Dat → Prop
  | .lst ds => ∃ a vs, v = .ref a ∧ (H a = some (.lst vs) ∧ a ∉ p.α ∧ a ∉ p.γ) ∧ IsDs Z H p vs ds
  | .dic ks ds => ∃ a vs, v = .ref a ∧ (H a = some (.dK (ks.zip vs)) ∧ a ∉ p.α ∧ a ∉ p.γ) ∧ ks.length = vs.length ∧ IsDs Z H p vs ds
  | .obj c fs ds => ∃ a vs, v = .ref a ∧ ((∃ dx, H a = some (.ins (Z.κ c) dx (fs.zip vs))) ∧ a ∉ p.α ∧ a ∉ p.γ) ∧ fs.length = vs.length ∧ IsDs Z H p vs ds
  | d => IsD Z H p v d
/-- from here to there: places come, what may not be written stays -/
structure Ext (H : Hp) (p : Pl) (H' : Hp) (p' : Pl) : Prop where
  α : ∃ β, p'.α = p.α ++ β ∧ ∀ b ∈ β, H b = none
  ω : ∃ β, p'.ω = p.ω ++ β ∧ ∀ b ∈ β, H b = none
  γ : p'.γ = p.γ
  k : ∀ a o, H a = some o → a ∉ p.α → a ∉ p.ω → H' a = some o
  t : ∀ a, H a ≠ none → H' a ≠ none
/-- the same of an expression: the own places stay, too -/
structure ExtE (H : Hp) (p : Pl) (H' : Hp) (p' : Pl) : Prop where
  α : ∃ β, p'.α = p.α ++ β ∧ ∀ b ∈ β, H b = none
  ω : p'.ω = p.ω
  γ : p'.γ = p.γ
  k : ∀ a o, H a = some o → a ∉ p.α → H' a = some o
  t : ∀ a, H a ≠ none → H' a ≠ none
theorem ExtE.s {H H' : Hp} {p p' : Pl} (e : ExtE H p H' p') : Ext H p H' p' := ⟨e.α, ⟨[], by rw [e.ω, List.append_nil], by simp⟩, e.γ, fun a o h n _ => e.k a o h n, e.t⟩
theorem ExtE.refl {H : Hp} {p : Pl} : ExtE H p H p := ⟨⟨[], by simp⟩, rfl, rfl, fun _ _ h _ => h, fun _ h => h⟩
theorem Ext.refl {H : Hp} {p : Pl} : Ext H p H p := ExtE.refl.s
theorem Ext.has {H H' : Hp} {p p' : Pl} (e : Ext H p H' p') {a : Addr} {o : HO} (h : H a = some o) (n : ¬ p.has a) : ¬ p'.has a := by
  obtain ⟨β, e1, f1⟩ := e.α
  obtain ⟨γ, e2, f2⟩ := e.ω
  rintro (q | q | q)
  · rw [e1] at q
    rcases List.mem_append.mp q with q | q
    · exact n (.inl q)
    · rw [f1 a q] at h; cases h
  · rw [e2] at q
    rcases List.mem_append.mp q with q | q
    · exact n (.inr (.inl q))
    · rw [f2 a q] at h; cases h
  · rw [e.γ] at q
    exact n (.inr (.inr q))
theorem back_of {H H1 : Hp} (t : ∀ a, H a ≠ none → H1 a ≠ none) {b : Addr} (q : H1 b = none) : H b = none := by
  cases z : H b with
  | none => rfl
  | some o => exact absurd q (t b (by rw [z]; exact nofun))
theorem fresh_app {H H1 : Hp} (t : ∀ a, H a ≠ none → H1 a ≠ none) {α α1 α2 : List Addr} (h : ∃ β, α1 = α ++ β ∧ ∀ b ∈ β, H b = none) (g : ∃ β, α2 = α1 ++ β ∧ ∀ b ∈ β, H1 b = none) : ∃ β, α2 = α ++ β ∧ ∀ b ∈ β, H b = none := by
  obtain ⟨β, e1, f1⟩ := h
  obtain ⟨γ, e2, f2⟩ := g
  refine ⟨β ++ γ, by rw [e2, e1, List.append_assoc], fun b q => ?_⟩
  rcases List.mem_append.mp q with q | q
  · exact f1 b q
  · exact back_of t (f2 b q)
theorem not_fresh {H : Hp} {α α1 : List Addr} (h : ∃ β, α1 = α ++ β ∧ ∀ b ∈ β, H b = none) {a : Addr} {o : HO} (e : H a = some o) (n : a ∉ α) : a ∉ α1 := by
  obtain ⟨β, e1, f1⟩ := h
  intro q
  rw [e1] at q
  rcases List.mem_append.mp q with q | q
  · exact n q
  · rw [f1 a q] at e; cases e
theorem Ext.trans {H H1 H2 : Hp} {p p1 p2 : Pl} (e : Ext H p H1 p1) (f : Ext H1 p1 H2 p2) : Ext H p H2 p2 :=
  ⟨fresh_app e.t e.α f.α, fresh_app e.t e.ω f.ω, f.γ.trans e.γ, fun a o h n m => f.k a o (e.k a o h n m) (not_fresh e.α h n) (not_fresh e.ω h m), fun a h => f.t a (e.t a h)⟩
theorem ExtE.trans {H H1 H2 : Hp} {p p1 p2 : Pl} (e : ExtE H p H1 p1) (f : ExtE H1 p1 H2 p2) : ExtE H p H2 p2 :=
  ⟨fresh_app e.t e.α f.α, f.ω.trans e.ω, f.γ.trans e.γ, fun a o h n => f.k a o (e.k a o h n) (not_fresh e.α h n), fun a h => f.t a (e.t a h)⟩
theorem ExtE.same {H H' : Hp} {p : Pl} (s : Same H H') : ExtE H p H' p :=
  ⟨⟨[], by simp⟩, rfl, rfl, fun b u e _ => s b u e, fun b n => by
    cases q : H b with
    | none => exact absurd q n
    | some o => rw [s b o q]; exact nofun⟩
theorem same_new {H : Hp} {p : Addr} {o : HO} (h : H p = none) : Same H (upd H p o) := fun b u e => (upd_ne (ne_of_none e h)).trans e
theorem ExtE.new {H : Hp} {p : Pl} {a : Addr} {o : HO} (h : H a = none) : ExtE H p (upd H a o) p := .same (same_new h)
theorem Ext.keep {H H' : Hp} {p p' : Pl} (e : Ext H p H' p') {a : Addr} {o : HO} (h : H a = some o) (n : ¬ p.has a) : H' a = some o := e.k a o h (fun q => n (.inl q)) fun q => n (.inr (.inl q))
theorem Rd.ext {H H' : Hp} {p p' : Pl} (e : Ext H p H' p') {a : Addr} {u : HO} (r : Rd H a u) (n : ¬ p.has a) : Rd H' a u ∧ ¬ p'.has a := by
  rcases r with r | ⟨o, r⟩
  · exact ⟨.inl (e.keep r n), e.has r n⟩
  · exact ⟨.inr ⟨o, e.keep r n⟩, e.has r n⟩
section
variable {Z : Cz} {H H' : Hp} {p p' : Pl}
theorem LstAt.ext (e : Ext H p H' p') {a : Addr} {vs : List V} (h : LstAt Z H p a vs) : LstAt Z H' p' a vs := ⟨e.keep h.1 h.2, e.has h.1 h.2⟩
theorem TupAt.ext (e : Ext H p H' p') {a : Addr} {vs : List V} (h : TupAt Z H p a vs) : TupAt Z H' p' a vs := h.imp (fun q => Rd.ext e q.1 q.2) id
theorem LstAt.sq {a : Addr} {vs : List V} (h : LstAt Z H p a vs) : SqL Z.K H a vs := SqL.of h.1
theorem TupAt.sq {a : Addr} {vs : List V} (h : TupAt Z H p a vs) : SqT Z.K H a vs := h.elim (fun q => .inl q.1) fun q => q H
mutual
theorem IsD.ext (e : Ext H p H' p') : ∀ (d : Dat) {v : V}, IsD Z H p v d → IsD Z H' p' v d
  | .non, _, h => by unfold IsD at h ⊢; exact h
  | .bl b, _, h => by unfold IsD at h ⊢; exact h
  | .int i, _, h => by unfold IsD at h ⊢; exact h
  | .str x, _, h => by unfold IsD at h ⊢; exact h
  | .ty n, _, h => by unfold IsD at h ⊢; exact h
  | .cls c, _, h => by unfold IsD at h ⊢; exact h
  | .scr ns, _, h => by
    unfold IsD at h ⊢
    obtain ⟨a, rfl, h1⟩ := h
    exact ⟨a, rfl, h1.imp (fun q => Rd.ext e q.1 q.2) id⟩
  | .tup ds, _, h => by
    unfold IsD at h ⊢
    obtain ⟨a, vs, rfl, h1, h2⟩ := h
    exact ⟨a, vs, rfl, h1.ext e, IsDs.ext e ds h2⟩
  | .lst ds, _, h => by
    unfold IsD at h ⊢
    obtain ⟨a, vs, rfl, h1, h2⟩ := h
    exact ⟨a, vs, rfl, h1.ext e, IsDs.ext e ds h2⟩
  | .dic ks ds, _, h => by
    unfold IsD at h ⊢
    obtain ⟨a, vs, rfl, h1, hl, h2⟩ := h
    exact ⟨a, vs, rfl, ⟨e.keep h1.1 h1.2, e.has h1.1 h1.2⟩, hl, IsDs.ext e ds h2⟩
  | .obj c fs ds, _, h => by
    unfold IsD at h ⊢
    obtain ⟨a, vs, rfl, ⟨⟨dx, h1⟩, n⟩, hl, h2⟩ := h
    exact ⟨a, vs, rfl, ⟨⟨dx, e.keep h1 n⟩, e.has h1 n⟩, hl, IsDs.ext e ds h2⟩
  | .loc n, _, h => by
    unfold IsD at h ⊢
    obtain ⟨a, rfl, h1⟩ := h
    obtain ⟨β, e1, _⟩ := e.α
    refine ⟨a, rfl, ?_⟩
    rw [e1, List.getElem?_append_left (List.getElem?_eq_some_iff.mp h1).1]
    exact h1
theorem IsDs.ext (e : Ext H p H' p') : ∀ (ds : List Dat) {vs : List V}, IsDs Z H p vs ds → IsDs Z H' p' vs ds
  | [], _, h => by unfold IsDs at h ⊢; exact h
  | d :: ds, _, h => by
    unfold IsDs at h ⊢
    obtain ⟨v, r, rfl, h1, h2⟩ := h
    exact ⟨v, r, rfl, IsD.ext e d h1, IsDs.ext e ds h2⟩
end
theorem isD_non {v : V} : IsD Z H p v .non ↔ v = .non := by unfold IsD; rfl
theorem isD_bl {v : V} {b : Bool} : IsD Z H p v (.bl b) ↔ v = .bl b := by unfold IsD; rfl
theorem isD_int {v : V} {i : Int} : IsD Z H p v (.int i) ↔ v = .int i := by unfold IsD; rfl
theorem isD_str {v : V} {x : Str} : IsD Z H p v (.str x) ↔ v = .str x := by unfold IsD; rfl
theorem isD_ty {v : V} {x : String} : IsD Z H p v (.ty x) ↔ v = .ty x := by unfold IsD; rfl
theorem isD_tup {v : V} {ds : List Dat} : IsD Z H p v (.tup ds) ↔ ∃ a vs, v = .ref a ∧ TupAt Z H p a vs ∧ IsDs Z H p vs ds := by
  constructor <;> (intro h; unfold IsD at *; exact h)
theorem isD_lst {v : V} {ds : List Dat} : IsD Z H p v (.lst ds) ↔ ∃ a vs, v = .ref a ∧ LstAt Z H p a vs ∧ IsDs Z H p vs ds := by
  constructor <;> (intro h; unfold IsD at *; exact h)
theorem isD_dic {v : V} {ks : List Key} {ds : List Dat} : IsD Z H p v (.dic ks ds) ↔ ∃ a vs, v = .ref a ∧ DicAt H p a (ks.zip vs) ∧ ks.length = vs.length ∧ IsDs Z H p vs ds := by
  constructor <;> (intro h; unfold IsD at *; exact h)
theorem isD_obj {v : V} {c : String} {fs : List Str} {ds : List Dat} : IsD Z H p v (.obj c fs ds) ↔ ∃ a vs, v = .ref a ∧ ObjAt H p a (Z.κ c) (fs.zip vs) ∧ fs.length = vs.length ∧ IsDs Z H p vs ds := by
  constructor <;> (intro h; unfold IsD at *; exact h)
theorem isD_loc {v : V} {n : Nat} : IsD Z H p v (.loc n) ↔ ∃ a, v = .ref a ∧ p.α[n]? = some a := by
  constructor <;> (intro h; unfold IsD at *; exact h)
theorem isD_scr {v : V} {ns : List Int} : IsD Z H p v (.scr ns) ↔ ∃ a, v = .ref a ∧ ((Rd H a (.lst (ns.map V.int)) ∧ ¬ p.has a) ∨ ∀ H', SqL Z.K H' a (ns.map V.int)) := by
  constructor <;> (intro h; unfold IsD at *; exact h)
theorem isDs_nil {vs : List V} : IsDs Z H p vs [] ↔ vs = [] := by unfold IsDs; rfl
theorem isDs_cons {vs : List V} {d : Dat} {ds : List Dat} : IsDs Z H p vs (d :: ds) ↔ ∃ v r, vs = v :: r ∧ IsD Z H p v d ∧ IsDs Z H p r ds := by
  rw [IsDs]
theorem IsDs.len : ∀ {ds : List Dat} {vs : List V}, IsDs Z H p vs ds → vs.length = ds.length
  | [], _, h => by rw [isDs_nil.mp h]; rfl
  | d :: ds, _, h => by
    obtain ⟨v, r, rfl, _, h2⟩ := isDs_cons.mp h
    rw [List.length_cons, List.length_cons, IsDs.len h2]
theorem IsDs.get : ∀ {ds : List Dat} {vs : List V} {i : Nat} {d : Dat}, IsDs Z H p vs ds → ds[i]? = some d → ∃ v, vs[i]? = some v ∧ IsD Z H p v d
  | [], _, i, d, _, e => by simp at e
  | c :: ds, _, 0, d, h, e => by
    obtain ⟨v, r, rfl, h1, _⟩ := isDs_cons.mp h
    simp at e
    subst e
    exact ⟨v, rfl, h1⟩
  | c :: ds, _, i + 1, d, h, e => by
    obtain ⟨v, r, rfl, _, h2⟩ := isDs_cons.mp h
    obtain ⟨u, q1, q2⟩ := IsDs.get (i := i) h2 (by simpa using e)
    exact ⟨u, by simpa using q1, q2⟩
theorem IsDs.append : ∀ {ds es : List Dat} {vs ws : List V}, IsDs Z H p vs ds → IsDs Z H p ws es → IsDs Z H p (vs ++ ws) (ds ++ es)
  | [], _, _, _, h, g => by rw [isDs_nil.mp h]; exact g
  | d :: ds, _, _, _, h, g => by
    obtain ⟨v, r, rfl, h1, h2⟩ := isDs_cons.mp h
    exact isDs_cons.mpr ⟨v, _, rfl, h1, IsDs.append h2 g⟩
theorem IsDs.one {v : V} {d : Dat} (h : IsD Z H p v d) : IsDs Z H p [v] [d] := isDs_cons.mpr ⟨v, [], rfl, h, isDs_nil.mpr rfl⟩
theorem IsDs.drop : ∀ {ds : List Dat} {vs : List V} (n : Nat), IsDs Z H p vs ds → IsDs Z H p (vs.drop n) (ds.drop n)
  | _, _, 0, h => h
  | [], _, n + 1, h => by rw [isDs_nil.mp h]; exact isDs_nil.mpr rfl
  | d :: ds, _, n + 1, h => by
    obtain ⟨v, r, rfl, _, h2⟩ := isDs_cons.mp h
    exact IsDs.drop n h2
theorem IsDs.take : ∀ {ds : List Dat} {vs : List V} (n : Nat), IsDs Z H p vs ds → IsDs Z H p (vs.take n) (ds.take n)
  | _, _, 0, _ => isDs_nil.mpr rfl
  | [], _, n + 1, h => by rw [isDs_nil.mp h]; exact isDs_nil.mpr rfl
  | d :: ds, _, n + 1, h => by
    obtain ⟨v, r, rfl, h1, h2⟩ := isDs_cons.mp h
    exact isDs_cons.mpr ⟨v, _, rfl, h1, IsDs.take n h2⟩
theorem IsDs.set : ∀ {ds : List Dat} {vs : List V} {u : V} {e : Dat} (i : Nat), IsDs Z H p vs ds → IsD Z H p u e → IsDs Z H p (vs.set i u) (ds.set i e)
  | [], _, _, _, _, h, _ => by rw [isDs_nil.mp h]; exact isDs_nil.mpr rfl
  | d :: ds, _, u, e, 0, h, g => by
    obtain ⟨v, r, rfl, _, h2⟩ := isDs_cons.mp h
    exact isDs_cons.mpr ⟨u, r, rfl, g, h2⟩
  | d :: ds, _, u, e, i + 1, h, g => by
    obtain ⟨v, r, rfl, h1, h2⟩ := isDs_cons.mp h
    exact isDs_cons.mpr ⟨v, _, rfl, h1, IsDs.set i h2 g⟩
theorem IsDs.rev : ∀ {ds : List Dat} {vs : List V}, IsDs Z H p vs ds → IsDs Z H p vs.reverse ds.reverse
  | [], _, h => by rw [isDs_nil.mp h]; exact isDs_nil.mpr rfl
  | d :: ds, _, h => by
    obtain ⟨v, r, rfl, h1, h2⟩ := isDs_cons.mp h
    rw [List.reverse_cons, List.reverse_cons]
    exact IsDs.append (IsDs.rev h2) (.one h1)
/-- strong is weak -/
theorem IsD.w {v : V} {d : Dat} (h : IsD Z H p v d) : IsW Z H p v d := by
  cases d with
  | lst ds =>
    obtain ⟨a, vs, rfl, h1, h2⟩ := isD_lst.mp h
    exact ⟨a, vs, rfl, ⟨h1.1, fun z => h1.2 (.inl z), fun z => h1.2 (.inr (.inr z))⟩, h2⟩
  | dic ks ds =>
    obtain ⟨a, vs, rfl, h1, hl, h2⟩ := isD_dic.mp h
    exact ⟨a, vs, rfl, ⟨h1.1, fun z => h1.2 (.inl z), fun z => h1.2 (.inr (.inr z))⟩, hl, h2⟩
  | obj c fs ds =>
    obtain ⟨a, vs, rfl, h1, hl, h2⟩ := isD_obj.mp h
    exact ⟨a, vs, rfl, ⟨h1.1, fun z => h1.2 (.inl z), fun z => h1.2 (.inr (.inr z))⟩, hl, h2⟩
  | _ => exact h
end

/-! ### the store, the slots -/
def IsTop (Z : Cz) (H : Hp) (p : Pl) (a : Addr) : Dat → Prop
  | .lst ds => ∃ vs, H a = some (.lst vs) ∧ IsDs Z H p vs ds
  | .dic ks ds => ∃ vs, H a = some (.dK (ks.zip vs)) ∧ ks.length = vs.length ∧ IsDs Z H p vs ds
  | .obj c fs ds => ∃ dx vs, H a = some (.ins (Z.κ c) dx (fs.zip vs)) ∧ fs.length = vs.length ∧ IsDs Z H p vs ds
  | _ => False
structure IsS (Z : Cz) (H : Hp) (p : Pl) (S : List Dat) : Prop where
  len : p.α.length = S.length
  nd : p.α.Nodup
  dj : ∀ a ∈ p.ω, a ∉ p.α ∧ a ∉ p.γ
  dg : ∀ a ∈ p.γ, a ∉ p.α
  wt : ∀ a, a ∈ p.ω ∨ a ∈ p.γ → H a ≠ none
  at_ : ∀ (n : Nat) (a : Addr) (d : Dat), p.α[n]? = some a → S[n]? = some d → IsTop Z H p a d
theorem IsTop.there {Z : Cz} {H : Hp} {p : Pl} {a : Addr} {d : Dat} (h : IsTop Z H p a d) : H a ≠ none := by
  cases d with
  | lst ds => obtain ⟨vs, e, _⟩ := h; rw [e]; exact nofun
  | dic ks ds => obtain ⟨vs, e, _⟩ := h; rw [e]; exact nofun
  | obj c fs ds => obtain ⟨dx, vs, e, _⟩ := h; rw [e]; exact nofun
  | _ => exact h.elim
theorem IsS.tracked {Z : Cz} {H : Hp} {p : Pl} {S : List Dat} (h : IsS Z H p S) {a : Addr} (q : p.has a) : H a ≠ none := by
  rcases q with q | q
  · obtain ⟨n, hn⟩ := List.getElem?_of_mem q
    have lt := (List.getElem?_eq_some_iff.mp hn).1
    exact (h.at_ n a (S[n]'(h.len ▸ lt)) hn (List.getElem?_eq_getElem (h.len ▸ lt))).there
  · exact h.wt a q
abbrev Env := List (Option Dat)
/-- the slots: O tells the own ones (a place of the frame's alone) -/
structure IsE (Z : Cz) (O : List Nat) (H : Hp) (p : Pl) (σ : L2.St) (ρ : Env) : Prop where
  len : σ.length = ρ.length
  get : ∀ (i : Nat) (d : Dat), i ∉ O → ρ[i]? = some (some d) → ∃ v, σ[i]? = some (some v) ∧ IsD Z H p v d
  own : ∀ (i : Nat) (d : Dat), i ∈ O → ρ[i]? = some (some d) → ∃ a, σ[i]? = some (some (.ref a)) ∧ a ∈ p.ω ∧ IsTop Z H p a d
  dj : ∀ (i j : Nat) (a : Addr), i ∈ O → j ∈ O → i ≠ j → (∃ d, ρ[i]? = some (some d)) → (∃ d, ρ[j]? = some (some d)) → σ[i]? = some (some (.ref a)) → σ[j]? ≠ some (some (.ref a))
theorem IsTop.ext {Z : Cz} {H H' : Hp} {p p' : Pl} (e : Ext H p H' p') {a : Addr} (k : ∀ o, H a = some o → H' a = some o) {d : Dat} (h : IsTop Z H p a d) : IsTop Z H' p' a d := by
  cases d with
  | lst ds => obtain ⟨vs, e1, h1⟩ := h; exact ⟨vs, k _ e1, h1.ext e⟩
  | dic ks ds => obtain ⟨vs, e1, l, h1⟩ := h; exact ⟨vs, k _ e1, l, h1.ext e⟩
  | obj c fs ds => obtain ⟨dx, vs, e1, l, h1⟩ := h; exact ⟨dx, vs, k _ e1, l, h1.ext e⟩
  | _ => exact h.elim
theorem IsE.ext {Z : Cz} {O : List Nat} {H H' : Hp} {p p' : Pl} {σ : L2.St} {ρ : Env} {S : List Dat} (e : ExtE H p H' p') (s : IsS Z H p S) (h : IsE Z O H p σ ρ) : IsE Z O H' p' σ ρ := by
  refine ⟨h.len, fun i d n q => ?_, fun i d n q => ?_, h.dj⟩
  · obtain ⟨v, h1, h2⟩ := h.get i d n q
    exact ⟨v, h1, h2.ext e.s⟩
  · obtain ⟨a, h1, h2, h3⟩ := h.own i d n q
    exact ⟨a, h1, by rw [e.ω]; exact h2, h3.ext e.s fun o z => e.k a o z (s.dj a h2).1⟩
/-- the store stays where its places do -/
theorem IsS.ext {Z : Cz} {H H' : Hp} {p : Pl} {S : List Dat} (sm : Same H H') (s : IsS Z H p S) : IsS Z H' p S :=
  ⟨s.len, s.nd, s.dj, s.dg, fun a q z => s.wt a q (back_of (ExtE.same (p := p) sm).t z), fun n a d h1 h2 => (s.at_ n a d h1 h2).ext (ExtE.same sm).s fun o z => sm a o z⟩
end Zd

namespace Zd
open PySem PySem.Spec PyProof.Rows L2

/-! ### what a program does with trees -/
inductive Out (α : Type) where
  | ok (a : α) (S : List Dat)
  | er (c : String) (fs : List Dat) (S : List Dat)
  | bad
def M (α : Type) : Type := List Dat → Out α
def M.ret {α : Type} (a : α) : M α := fun S => .ok a S
def M.bnd {α β : Type} (m : M α) (f : α → M β) : M β := fun S => match m S with
  | .ok a S' => f a S'
  | .er c fs S' => .er c fs S'
  | .bad => .bad
def M.no {α : Type} : M α := fun _ => .bad
instance : Monad M where
  pure := M.ret
  bind := M.bnd
theorem m_pure {α : Type} (a : α) (S : List Dat) : (pure a : M α) S = .ok a S := rfl
theorem m_bind {α β : Type} (m : M α) (f : α → M β) (S : List Dat) : (m >>= f) S = match m S with
  | .ok a S' => f a S'
  | .er c fs S' => .er c fs S'
  | .bad => .bad := rfl
instance : LawfulMonad M := LawfulMonad.mk' M (fun m => by funext S; show M.bnd m M.ret S = m S; unfold M.bnd M.ret; cases m S <;> rfl) (fun _ _ => rfl) (fun m f g => by
  funext S
  show M.bnd (M.bnd m f) g S = M.bnd m (fun x => M.bnd (f x) g) S
  unfold M.bnd
  cases m S <;> rfl)
/-- a test of one's own: what is not so is not spoken of -/
def M.need (b : Bool) : M Unit := if b then pure () else M.no
def M.opt {α : Type} : Option α → M α
  | some a => pure a
  | none => M.no
inductive Flow where
  | nx (ρ : Env) | rt (d : Dat) | bk (ρ : Env) | ct (ρ : Env)

/-! ### what is known behind it -/
abbrev ErW := String → List Dat → List Dat → Hp → List Addr → List Addr → Prop
abbrev XR := Hp → Pl → Hp → Pl → Prop
def Post {α : Type} (Z : Cz) (Er : ErW) (X : XR) (o : Out α) (H : Hp) (p : Pl) (C : α → List Dat → Hp → Pl → Prop) : Prop := match o with
  | .ok a S' => ∀ H' p', X H p H' p' → IsS Z H' p' S' → C a S' H' p'
  | .er c fs S' => ∀ H' p', X H p H' p' → IsS Z H' p' S' → Er c fs S' H' p'.α p'.γ
  | .bad => False
structure XOk (X : XR) : Prop where
  refl : ∀ {H p}, X H p H p
  trans : ∀ {H p H1 p1 H2 p2}, X H p H1 p1 → X H1 p1 H2 p2 → X H p H2 p2
  of : ∀ {H p H' p'}, ExtE H p H' p' → X H p H' p'
  s : ∀ {H p H' p'}, X H p H' p' → Ext H p H' p'
theorem xE : XOk ExtE := ⟨ExtE.refl, fun a b => a.trans b, id, ExtE.s⟩
theorem xS : XOk Ext := ⟨Ext.refl, fun a b => a.trans b, ExtE.s, id⟩
section
variable {Z : Cz} {Er : ErW} {X : XR} {α β : Type} {o : Out α} {H : Hp} {p : Pl} {S : List Dat}
theorem Post.bnd (x : XOk X) {m : M α} {f : α → M β} {C : β → List Dat → Hp → Pl → Prop} (h : Post Z Er X ((m >>= f) S) H p C) : Post Z Er X (m S) H p fun a S' H' p' => Post Z Er X (f a S') H' p' C := by
  rw [m_bind] at h
  cases q : m S with
  | ok a S' =>
    rw [q] at h
    show ∀ H' p', X H p H' p' → IsS Z H' p' S' → Post Z Er X (f a S') H' p' C
    intro H' p' e s
    have h : Post Z Er X (f a S') H p C := h
    unfold Post at h ⊢
    cases q2 : f a S' with
    | ok b S2 => rw [q2] at h; exact fun H2 p2 e2 s2 => h H2 p2 (x.trans e e2) s2
    | er c fs S2 => rw [q2] at h; exact fun H2 p2 e2 s2 => h H2 p2 (x.trans e e2) s2
    | bad => rw [q2] at h; exact h
  | er c fs S' =>
    rw [q] at h
    exact h
  | bad =>
    rw [q] at h
    exact h
/-- the same, from the same place -/
theorem Post.bndK {m : M α} {f : α → M β} {C : β → List Dat → Hp → Pl → Prop} (h : Post Z Er X ((m >>= f) S) H p C) : Post Z Er X (m S) H p fun a S' _ _ => Post Z Er X (f a S') H p C := by
  rw [m_bind] at h
  cases q : m S with
  | ok a S' => rw [q] at h; exact fun _ _ _ _ => h
  | er c fs S' => rw [q] at h; exact h
  | bad => rw [q] at h; exact h
theorem Post.mono {C D : α → List Dat → Hp → Pl → Prop} (h : Post Z Er X o H p C) (k : ∀ a S' H' p', X H p H' p' → IsS Z H' p' S' → C a S' H' p' → D a S' H' p') : Post Z Er X o H p D := by
  unfold Post at h ⊢
  cases o with
  | ok a S' => exact fun H' p' e s => k a S' H' p' e s (h H' p' e s)
  | er c fs S' => exact h
  | bad => exact h
theorem Post.pure {a : α} {C : α → List Dat → Hp → Pl → Prop} (x : XOk X) (h : Post Z Er X ((Pure.pure a : M α) S) H p C) (s : IsS Z H p S) : C a S H p := h H p x.refl s
theorem Post.of {C : α → List Dat → Hp → Pl → Prop} (x : XOk X) (h : Post Z Er X o H p C) : Post Z Er ExtE o H p C := by
  unfold Post at h ⊢
  cases o with
  | ok a S' => exact fun H' p' e s => h H' p' (x.of e) s
  | er c fs S' => exact fun H' p' e s => h H' p' (x.of e) s
  | bad => exact h
theorem Post.need {b : Bool} {m : M α} {C : α → List Dat → Hp → Pl → Prop} (h : Post Z Er X ((M.need b >>= fun _ => m) S) H p C) : b = true ∧ Post Z Er X (m S) H p C := by
  cases b with
  | true => exact ⟨rfl, h⟩
  | false => exact (show False from h).elim
theorem Post.opt {a : Option β} {f : β → M α} {C : α → List Dat → Hp → Pl → Prop} (h : Post Z Er X ((M.opt a >>= f) S) H p C) : ∃ b, a = some b ∧ Post Z Er X (f b S) H p C := by
  cases a with
  | some b => exact ⟨b, rfl, h⟩
  | none => exact (show False from h).elim
end

/-! ### readings and what they do with trees -/
def J (Z : Cz) (Er : ErW) (O : List Nat) {α β : Type} (Rel : Hp → Pl → β → α → Prop) (te : L2.St → Hp → (β → Hp → Prop) → Prop) (m : Env → M α) : Prop :=
  ∀ (σ : L2.St) (H : Hp) (p : Pl) (ρ : Env) (S : List Dat) (Q : β → Hp → Prop), IsE Z O H p σ ρ → IsS Z H p S → Post Z Er ExtE (m ρ S) H p (fun a _ H' p' => ∀ b, Rel H' p' b a → Q b H') → te σ H Q
abbrev JD (Z : Cz) (Er : ErW) (O : List Nat) (te : TE) (m : Env → M Dat) : Prop := J Z Er O (IsD Z) te m
abbrev JW (Z : Cz) (Er : ErW) (O : List Nat) (te : TE) (m : Env → M Dat) : Prop := J Z Er O (IsW Z) te m
abbrev JB (Z : Cz) (Er : ErW) (O : List Nat) (tt : TT) (m : Env → M Bool) : Prop := J Z Er O (fun _ _ b c => b = c) tt m
abbrev JA (Z : Cz) (Er : ErW) (O : List Nat) (ta : TA) (m : Env → M (List Dat)) : Prop := J Z Er O (IsDs Z) ta m
abbrev JO (Z : Cz) (Er : ErW) (O : List Nat) (to : TO) (m : Env → M (Option Int)) : Prop := J Z Er O (fun _ _ b c => b = c) to m
/-- a new list, dict, that nobody has -/
def JF (Z : Cz) (Er : ErW) (O : List Nat) (te : TE) (m : Env → M Dat) : Prop :=
  ∀ (σ : L2.St) (H : Hp) (p : Pl) (ρ : Env) (S : List Dat) (Q : V → Hp → Prop), IsE Z O H p σ ρ → IsS Z H p S → Post Z Er ExtE (m ρ S) H p (fun d S' H' p' => ∀ a, H a = none → H' a ≠ none → ¬ p'.has a → IsS Z H' ⟨p'.α, p'.ω ++ [a], p'.γ⟩ S' → IsTop Z H' ⟨p'.α, p'.ω ++ [a], p'.γ⟩ a d → Q (.ref a) H') → te σ H Q
/-- two-place, one-place operations on values -/
def JR (Z : Cz) (A1 A2 A3 : Hp → Pl → V → Dat → Prop) (r : L2.R2) (f : Dat → Dat → M Dat) : Prop :=
  ∀ (x y : V) (d e : Dat) (Er : ErW) (H : Hp) (p : Pl) (S : List Dat) (Q : VK), A1 H p x d → A2 H p y e → IsS Z H p S → Post Z Er ExtE (f d e S) H p (fun a _ H' p' => ∀ v, A3 H' p' v a → Q v H') → r x y H Q
def JU (Z : Cz) (A1 A3 : Hp → Pl → V → Dat → Prop) (r : V → Hp → VK → Prop) (f : Dat → M Dat) : Prop :=
  ∀ (x : V) (d : Dat) (Er : ErW) (H : Hp) (p : Pl) (S : List Dat) (Q : VK), A1 H p x d → IsS Z H p S → Post Z Er ExtE (f d S) H p (fun a _ H' p' => ∀ v, A3 H' p' v a → Q v H') → r x H Q
def JC (Z : Cz) (A1 : Hp → Pl → List V → List Dat → Prop) (A3 : Hp → Pl → V → Dat → Prop) (r : List V → Hp → VK → Prop) (f : List Dat → M Dat) : Prop :=
  ∀ (x : List V) (d : List Dat) (Er : ErW) (H : Hp) (p : Pl) (S : List Dat) (Q : VK), A1 H p x d → IsS Z H p S → Post Z Er ExtE (f d S) H p (fun a _ H' p' => ∀ v, A3 H' p' v a → Q v H') → r x H Q
section
variable {Z : Cz} {Er : ErW} {O : List Nat} {te ta tb tc : TE} {tt tu : TT} {m m1 m2 m3 : Env → M Dat} {mb mc : Env → M Bool}
theorem JD.w (h : JD Z Er O te m) : JW Z Er O te m := fun σ H p ρ S Q hE hS q => h σ H p ρ S Q hE hS (q.mono fun _ _ _ _ _ _ k v hv => k v hv.w)
def xVar (i : Nat) (ρ : Env) : M Dat := match ρ[i]? with
  | some (some d) => pure d
  | _ => M.no
theorem j_var {i : Nat} (n : i ∉ O) : JD Z Er O (tVar i) (xVar i) := fun σ H p ρ S Q hE hS q => by
  unfold xVar at q
  match e : ρ[i]?, q with
  | some (some d), q =>
    obtain ⟨v, h1, h2⟩ := hE.get i d n e
    exact ⟨v, h1, q.pure xE hS v h2⟩
  | some none, q => exact (show False from q).elim
  | none, q => exact (show False from q).elim
theorem IsTop.isW {H : Hp} {p : Pl} {S : List Dat} (s : IsS Z H p S) {a : Addr} (ha : a ∈ p.ω) {d : Dat} (h : IsTop Z H p a d) : IsW Z H p (.ref a) d := by
  obtain ⟨n1, n2⟩ := s.dj a ha
  cases d with
  | lst ds => obtain ⟨vs, e1, h1⟩ := h; exact ⟨a, vs, rfl, ⟨e1, n1, n2⟩, h1⟩
  | dic ks ds => obtain ⟨vs, e1, l, h1⟩ := h; exact ⟨a, vs, rfl, ⟨e1, n1, n2⟩, l, h1⟩
  | obj c fs ds => obtain ⟨dx, vs, e1, l, h1⟩ := h; exact ⟨a, vs, rfl, ⟨⟨dx, e1⟩, n1, n2⟩, l, h1⟩
  | _ => exact h.elim
theorem j_varO {i : Nat} (n : i ∈ O) : JW Z Er O (tVar i) (xVar i) := fun σ H p ρ S Q hE hS q => by
  unfold xVar at q
  match e : ρ[i]?, q with
  | some (some d), q =>
    obtain ⟨a, h1, h2, h3⟩ := hE.own i d n e
    exact ⟨_, h1, q.pure xE hS _ (h3.isW hS h2)⟩
  | some none, q => exact (show False from q).elim
  | none, q => exact (show False from q).elim
def xC (d : Dat) (_ : Env) : M Dat := pure d
theorem j_c {v : V} {d : Dat} (h : ∀ H p, IsD Z H p v d) : JD Z Er O (tC v) (xC d) := fun σ H p ρ S Q hE hS q => q.pure xE hS v (h H p)
theorem j_int {i : Int} : JD Z Er O (tC (.int i)) (xC (.int i)) := j_c fun _ _ => isD_int.mpr rfl
theorem j_str {i : Str} : JD Z Er O (tC (.str i)) (xC (.str i)) := j_c fun _ _ => isD_str.mpr rfl
theorem j_bl {i : Bool} : JD Z Er O (tC (.bl i)) (xC (.bl i)) := j_c fun _ _ => isD_bl.mpr rfl
theorem j_non : JD Z Er O (tC .non) (xC .non) := j_c fun _ _ => isD_non.mpr rfl
theorem j_ty {i : String} : JD Z Er O (tC (.ty i)) (xC (.ty i)) := j_c fun _ _ => isD_ty.mpr rfl
def xOp (f : Dat → Dat → M Dat) (a b : Env → M Dat) (ρ : Env) : M Dat := a ρ >>= fun x => b ρ >>= fun y => f x y
structure Up (Z : Cz) (R : Hp → Pl → V → Dat → Prop) : Prop where
  up : ∀ {H p H' p' v d S}, ExtE H p H' p' → IsS Z H p S → R H p v d → R H' p' v d
theorem upD : Up Z (IsD Z) := ⟨fun e _ h => h.ext e.s⟩
theorem upW : Up Z (IsW Z) := ⟨fun {H p H' p' v d S} e s h => by
  cases d with
  | lst ds =>
    obtain ⟨a, vs, rfl, ⟨r, n1, n2⟩, h2⟩ := h
    exact ⟨a, vs, rfl, ⟨e.k _ _ r n1, not_fresh e.α r n1, by rw [e.γ]; exact n2⟩, h2.ext e.s⟩
  | dic ks ds =>
    obtain ⟨a, vs, rfl, ⟨r, n1, n2⟩, l, h2⟩ := h
    exact ⟨a, vs, rfl, ⟨e.k _ _ r n1, not_fresh e.α r n1, by rw [e.γ]; exact n2⟩, l, h2.ext e.s⟩
  | obj c fs ds =>
    obtain ⟨a, vs, rfl, ⟨⟨dx, r⟩, n1, n2⟩, l, h2⟩ := h
    exact ⟨a, vs, rfl, ⟨⟨dx, e.k _ _ r n1⟩, not_fresh e.α r n1, by rw [e.γ]; exact n2⟩, l, h2.ext e.s⟩
  | non => exact IsD.ext e.s _ h
  | bl b => exact IsD.ext e.s _ h
  | int i => exact IsD.ext e.s _ h
  | str x => exact IsD.ext e.s _ h
  | tup ds => exact IsD.ext e.s _ h
  | loc n => exact IsD.ext e.s _ h
  | ty n => exact IsD.ext e.s _ h
  | cls n => exact IsD.ext e.s _ h
  | scr n => exact IsD.ext e.s _ h⟩
variable {A1 A2 A3 : Hp → Pl → V → Dat → Prop} {r : L2.R2} {f : Dat → Dat → M Dat}
theorem j_op (u : Up Z A1) (hr : JR Z A1 A2 A3 r f) (ha : J Z Er O A1 ta m1) (hb : J Z Er O A2 tb m2) : J Z Er O A3 (tOp r ta tb) (xOp f m1 m2) := fun σ H p ρ S Q hE hS q =>
  ha σ H p ρ S _ hE hS ((q.bnd xE).mono fun d S1 H1 p1 e1 s1 q1 v hv => hb σ H1 p1 ρ S1 _ (hE.ext e1 hS) s1 ((q1.bnd xE).mono fun e S2 H2 p2 e2 s2 q2 w hw => hr v w d e Er H2 p2 S2 _ (u.up e2 s1 hv) hw s2 q2))
def xUn (f : Dat → M Dat) (a : Env → M Dat) (ρ : Env) : M Dat := a ρ >>= f
theorem j_un {r : V → Hp → VK → Prop} {f : Dat → M Dat} (hr : JU Z A1 A3 r f) (ha : J Z Er O A1 ta m1) : J Z Er O A3 (tUn r ta) (xUn f m1) := fun σ H p ρ S Q hE hS q =>
  ha σ H p ρ S _ hE hS ((q.bnd xE).mono fun d S1 H1 p1 e1 s1 q1 v hv => hr v d Er H1 p1 S1 _ hv s1 q1)
/-! tests -/
def dB : Dat → Option Bool
  | .bl b => some b
  | _ => none
theorem dB_some {d : Dat} {b : Bool} (h : dB d = some b) : d = .bl b := by
  cases d <;> first | (cases h; rfl) | cases h
def bTest (a : Env → M Dat) (ρ : Env) : M Bool := a ρ >>= fun x => M.opt (dB x)
theorem opt_pure {α : Type} {a : Option α} {S : List Dat} {H : Hp} {p : Pl} {X : XR} {C : α → List Dat → Hp → Pl → Prop} (x : XOk X) (h : Post Z Er X (M.opt a S) H p C) (s : IsS Z H p S) : ∃ b, a = some b ∧ C b S H p := by
  cases a with
  | some b => exact ⟨b, rfl, h H p x.refl s⟩
  | none => exact (show False from h).elim
theorem jb_test (ha : JD Z Er O ta m1) : JB Z Er O (tTest ta) (bTest m1) := fun σ H p ρ S Q hE hS q =>
  ha σ H p ρ S _ hE hS ((q.bnd xE).mono fun d S1 H1 p1 e1 s1 q1 v hv => by
    obtain ⟨b, e, k⟩ := opt_pure xE q1 s1
    rw [dB_some e] at hv
    exact ⟨b, isD_bl.mp hv, k b rfl⟩)
theorem jb_B (ha : JD Z Er O ta m1) : JB Z Er O (tB ta) (bTest m1) := jb_test ha
def bAnd (a b : Env → M Bool) (ρ : Env) : M Bool := a ρ >>= fun x => if x = true then b ρ else pure false
def bOr (a b : Env → M Bool) (ρ : Env) : M Bool := a ρ >>= fun x => if x = true then pure true else b ρ
def bNot (a : Env → M Bool) (ρ : Env) : M Bool := a ρ >>= fun x => pure (!x)
theorem jb_and (ha : JB Z Er O tt mb) (hb : JB Z Er O tu mc) : JB Z Er O (tAnd tt tu) (bAnd mb mc) := fun σ H p ρ S Q hE hS q =>
  ha σ H p ρ S _ hE hS ((q.bnd xE).mono fun d S1 H1 p1 e1 s1 q1 v hv => by
    subst hv
    cases v with
    | true => exact hb σ H1 p1 ρ S1 Q (hE.ext e1 hS) s1 q1
    | false => exact Post.pure xE q1 s1 false rfl)
theorem jb_or (ha : JB Z Er O tt mb) (hb : JB Z Er O tu mc) : JB Z Er O (tOr tt tu) (bOr mb mc) := fun σ H p ρ S Q hE hS q =>
  ha σ H p ρ S _ hE hS ((q.bnd xE).mono fun d S1 H1 p1 e1 s1 q1 v hv => by
    subst hv
    cases v with
    | false => exact hb σ H1 p1 ρ S1 Q (hE.ext e1 hS) s1 q1
    | true => exact Post.pure xE q1 s1 true rfl)
theorem jb_not (ha : JB Z Er O tt mb) : JB Z Er O (tNot tt) (bNot mb) := fun σ H p ρ S Q hE hS q =>
  ha σ H p ρ S _ hE hS ((q.bnd xE).mono fun d S1 H1 p1 e1 s1 q1 v hv => by
    subst hv
    exact Post.pure xE q1 s1 _ rfl)
def bYes (_ : Env) : M Bool := pure true
theorem jb_yes : JB Z Er O tYes bYes := fun σ H p ρ S Q hE hS q => q.pure xE hS true rfl
def xAnd (a b : Env → M Dat) (ρ : Env) : M Dat := bTest a ρ >>= fun x => if x = true then b ρ else pure (.bl false)
def xOr (a b : Env → M Dat) (ρ : Env) : M Dat := bTest a ρ >>= fun x => if x = true then pure (.bl true) else b ρ
def xNot (a : Env → M Dat) (ρ : Env) : M Dat := bTest a ρ >>= fun x => pure (.bl (!x))
theorem j_andV (ha : JD Z Er O ta m1) (hb : JD Z Er O tb m2) : JD Z Er O (tAndV ta tb) (xAnd m1 m2) := fun σ H p ρ S Q hE hS q =>
  jb_test ha σ H p ρ S (fun b H1 => if b = true then tb σ H1 Q else Q (.bl false) H1) hE hS ((q.bnd xE).mono fun d S1 H1 p1 e1 s1 q1 v hv => by
    subst hv
    cases v with
    | true => exact hb σ H1 p1 ρ S1 Q (hE.ext e1 hS) s1 q1
    | false => exact Post.pure xE q1 s1 _ (isD_bl.mpr rfl))
theorem j_orV (ha : JD Z Er O ta m1) (hb : JD Z Er O tb m2) : JD Z Er O (tOrV ta tb) (xOr m1 m2) := fun σ H p ρ S Q hE hS q =>
  jb_test ha σ H p ρ S (fun b H1 => if b = true then Q (.bl true) H1 else tb σ H1 Q) hE hS ((q.bnd xE).mono fun d S1 H1 p1 e1 s1 q1 v hv => by
    subst hv
    cases v with
    | false => exact hb σ H1 p1 ρ S1 Q (hE.ext e1 hS) s1 q1
    | true => exact Post.pure xE q1 s1 _ (isD_bl.mpr rfl))
theorem j_notV (ha : JD Z Er O ta m1) : JD Z Er O (tNotV ta) (xNot m1) := fun σ H p ρ S Q hE hS q =>
  jb_test ha σ H p ρ S (fun b H1 => Q (.bl (!b)) H1) hE hS ((q.bnd xE).mono fun d S1 H1 p1 e1 s1 q1 v hv => by
    subst hv
    exact Post.pure xE q1 s1 _ (isD_bl.mpr rfl))
def xIf (c : Env → M Bool) (a b : Env → M Dat) (ρ : Env) : M Dat := c ρ >>= fun x => if x = true then a ρ else b ρ
theorem j_if (hc : JB Z Er O tt mb) (ha : J Z Er O A3 ta m1) (hb : J Z Er O A3 tb m2) : J Z Er O A3 (tIf tt ta tb) (xIf mb m1 m2) := fun σ H p ρ S Q hE hS q =>
  hc σ H p ρ S _ hE hS ((q.bnd xE).mono fun d S1 H1 p1 e1 s1 q1 v hv => by
    subst hv
    cases v with
    | true => exact ha σ H1 p1 ρ S1 Q (hE.ext e1 hS) s1 q1
    | false => exact hb σ H1 p1 ρ S1 Q (hE.ext e1 hS) s1 q1)
/-- a op b op c -/
def xChain (f g : Dat → Dat → M Dat) (a b c : Env → M Dat) (ρ : Env) : M Dat := a ρ >>= fun x => b ρ >>= fun y => (f x y >>= fun z => M.opt (dB z)) >>= fun k => if k = true then c ρ >>= fun u => g y u else pure (.bl false)
theorem j_chain {r r' : L2.R2} {f g : Dat → Dat → M Dat} (hr : JR Z (IsD Z) (IsD Z) (IsD Z) r f) (hr' : JR Z (IsD Z) (IsD Z) (IsD Z) r' g) (ha : JD Z Er O ta m1) (hb : JD Z Er O tb m2) (hc : JD Z Er O tc m3) : JD Z Er O (tChain r r' ta tb tc) (xChain f g m1 m2 m3) := fun σ H p ρ S Q hE hS q =>
  ha σ H p ρ S _ hE hS ((q.bnd xE).mono fun d S1 H1 p1 e1 s1 q1 v hv => hb σ H1 p1 ρ S1 _ (hE.ext e1 hS) s1 ((q1.bnd xE).mono fun e S2 H2 p2 e2 s2 q2 w hw =>
    hr v w d e Er H2 p2 S2 _ (hv.ext e2.s) hw s2 (((q2.bnd xE).bnd xE).mono fun z S3 H3 p3 e3 s3 q3 zv hz => by
      obtain ⟨b, e, k⟩ := opt_pure xE q3 s3
      rw [dB_some e] at hz
      refine ⟨b, isD_bl.mp hz, ?_⟩
      cases b with
      | true =>
        have k : Post Z Er ExtE ((m3 ρ >>= fun u => g _ u) S3) H3 p3 _ := k
        exact hc σ H3 p3 ρ S3 _ (((hE.ext e1 hS).ext e2 s1).ext e3 s2) s3 ((k.bnd xE).mono fun u S4 H4 p4 e4 s4 q4 uv hu => hr' w uv _ _ Er H4 p4 S4 _ (hw.ext (e3.trans e4).s) hu s4 q4)
      | false => exact Post.pure xE k s3 _ (isD_bl.mpr rfl))))
/-! arguments, tuples, lists -/
def xNil (_ : Env) : M (List Dat) := pure []
def xCons (a : Env → M Dat) (l : Env → M (List Dat)) (ρ : Env) : M (List Dat) := a ρ >>= fun x => l ρ >>= fun xs => pure (x :: xs)
variable {tl : TA} {ml : Env → M (List Dat)}
theorem ja_nil : JA Z Er O tNil xNil := fun σ H p ρ S Q hE hS q => q.pure xE hS [] (isDs_nil.mpr rfl)
theorem ja_cons (ha : JD Z Er O ta m1) (hl : JA Z Er O tl ml) : JA Z Er O (tCons ta tl) (xCons m1 ml) := fun σ H p ρ S Q hE hS q =>
  ha σ H p ρ S _ hE hS ((q.bnd xE).mono fun d S1 H1 p1 e1 s1 q1 v hv => hl σ H1 p1 ρ S1 _ (hE.ext e1 hS) s1 ((q1.bnd xE).mono fun ds S2 H2 p2 e2 s2 q2 vs hvs => q2.pure xE s2 (v :: vs) (isDs_cons.mpr ⟨v, vs, rfl, hv.ext e2.s, hvs⟩)))
/-- the first one a container that may be the frame's own -/
def IsWs (Z : Cz) (H : Hp) (p : Pl) (vs : List V) : List Dat → Prop
  | [] => vs = []
  | d :: ds => ∃ v r, vs = v :: r ∧ IsW Z H p v d ∧ IsDs Z H p r ds
theorem ja_consW (ha : JW Z Er O ta m1) (hl : JA Z Er O tl ml) : J Z Er O (IsWs Z) (tCons ta tl) (xCons m1 ml) := fun σ H p ρ S Q hE hS q =>
  ha σ H p ρ S _ hE hS ((q.bnd xE).mono fun d S1 H1 p1 e1 s1 q1 v hv => hl σ H1 p1 ρ S1 _ (hE.ext e1 hS) s1 ((q1.bnd xE).mono fun ds S2 H2 p2 e2 s2 q2 vs hvs => q2.pure xE s2 (v :: vs) ⟨v, vs, rfl, upW.up e2 s1 hv, hvs⟩))
theorem no_has {H : Hp} {p : Pl} {S : List Dat} (s : IsS Z H p S) {a : Addr} (h : H a = none) : ¬ p.has a := fun q => s.tracked q h
theorem new_tup {H : Hp} {p : Pl} {S : List Dat} (s : IsS Z H p S) {a : Addr} {vs : List V} {ds : List Dat} (na : H a = none) (h : IsDs Z H p vs ds) : IsD Z (upd H a (.tup vs)) p (.ref a) (.tup ds) :=
  isD_tup.mpr ⟨a, vs, rfl, .inl ⟨.inl upd_same, no_has s na⟩, h.ext (ExtE.new na).s⟩
theorem new_lst {H : Hp} {p : Pl} {S : List Dat} (s : IsS Z H p S) {a : Addr} {vs : List V} {ds : List Dat} (na : H a = none) (h : IsDs Z H p vs ds) : IsD Z (upd H a (.lst vs)) p (.ref a) (.lst ds) :=
  isD_lst.mpr ⟨a, vs, rfl, ⟨upd_same, no_has s na⟩, h.ext (ExtE.new na).s⟩
/-- a step of the heap that lays one new object -/
theorem Post.at_new {α : Type} {a : α} {H : Hp} {p : Pl} {S : List Dat} {C : α → List Dat → Hp → Pl → Prop} (q : Post Z Er ExtE ((Pure.pure a : M α) S) H p C) (s : IsS Z H p S) {x : Addr} {o : HO} (nx : H x = none) : C a S (upd H x o) p :=
  q _ _ (ExtE.new nx) (s.ext (same_new nx))
def xTup (l : Env → M (List Dat)) (ρ : Env) : M Dat := l ρ >>= fun ds => M.need (decide (ds.length ≤ 1000)) >>= fun _ => pure (.tup ds)
def xLst (l : Env → M (List Dat)) (ρ : Env) : M Dat := l ρ >>= fun ds => M.need (decide (ds.length ≤ 1000)) >>= fun _ => pure (.lst ds)
theorem few {n : Nat} (h : n ≤ 1000) : n ≤ sizeLine := Nat.le_of_lt (small1000 h)
theorem j_tup (hl : JA Z Er O tl ml) : JD Z Er O (tTup tl) (xTup ml) := fun σ H p ρ S Q hE hS q =>
  hl σ H p ρ S _ hE hS ((q.bnd xE).mono fun ds S1 H1 p1 e1 s1 q1 vs hv => by
    obtain ⟨c, q2⟩ := q1.need
    exact ⟨few (by rw [hv.len]; exact of_decide_eq_true c), fun a na => q2.at_new s1 na _ (new_tup s1 na hv)⟩)
theorem j_lst (hl : JA Z Er O tl ml) : JD Z Er O (tLst tl) (xLst ml) := fun σ H p ρ S Q hE hS q =>
  hl σ H p ρ S _ hE hS ((q.bnd xE).mono fun ds S1 H1 p1 e1 s1 q1 vs hv => by
    obtain ⟨c, q2⟩ := q1.need
    exact ⟨few (by rw [hv.len]; exact of_decide_eq_true c), fun a na => q2.at_new s1 na _ (new_lst s1 na hv)⟩)
def xCB (f : List Dat → M Dat) (l : Env → M (List Dat)) (ρ : Env) : M Dat := l ρ >>= f
theorem j_cb {rc : List V → Hp → VK → Prop} {f : List Dat → M Dat} {RA : Hp → Pl → List V → List Dat → Prop} (hr : JC Z RA A3 rc f) (hl : J Z Er O RA tl ml) : J Z Er O A3 (tCB rc tl) (xCB f ml) := fun σ H p ρ S Q hE hS q =>
  hl σ H p ρ S _ hE hS ((q.bnd xE).mono fun ds S1 H1 p1 e1 s1 q1 vs hv => hr vs ds Er H1 p1 S1 _ hv s1 q1)
end
end Zd

namespace Zd
open PySem PySem.Spec PyProof.Rows L2

/-! ### targets -/
def JG (Z : Cz) (O : List Nat) (g : TG) (m : Env → Dat → Option Env) (vs : Option (List Nat)) : Prop :=
  ∀ (v : V) (σ : L2.St) (H : Hp) (p : Pl) (ρ : Env) (d : Dat) (R : L2.St → Hp → Prop), IsE Z O H p σ ρ → IsD Z H p v d → (∃ ρ', m ρ d = some ρ' ∧ ∀ σ', IsE Z O H p σ' ρ' → (∀ w, vs = some w → L2.wipe σ' w = L2.wipe σ w) → R σ' H) → g v σ H R
def JGs (Z : Cz) (O : List Nat) (g : TGs) (m : Env → List Dat → Option Env) (vs : Option (List Nat)) : Prop :=
  ∀ (v : List V) (σ : L2.St) (H : Hp) (p : Pl) (ρ : Env) (d : List Dat) (R : L2.St → Hp → Prop), IsE Z O H p σ ρ → IsDs Z H p v d → (∃ ρ', m ρ d = some ρ' ∧ ∀ σ', IsE Z O H p σ' ρ' → (∀ w, vs = some w → L2.wipe σ' w = L2.wipe σ w) → R σ' H) → g v σ H R
theorem IsE.set {Z : Cz} {O : List Nat} {H : Hp} {p : Pl} {σ : L2.St} {ρ : Env} (h : IsE Z O H p σ ρ) {i : Nat} {v : V} {d : Dat} (n : i ∉ O) (hv : IsD Z H p v d) : IsE Z O H p (σ.set i (some v)) (ρ.set i (some d)) := by
  refine ⟨by rw [List.length_set, List.length_set]; exact h.len, fun j e nj q => ?_, fun j e oj q => ?_, fun j k a oj ok ne hj hk q => ?_⟩
  · by_cases c : i = j
    · subst c
      rw [List.getElem?_set_self' ] at q ⊢
      cases z : ρ[i]? with
      | none => rw [z] at q; cases q
      | some w =>
        rw [z] at q
        cases q
        have lt := (List.getElem?_eq_some_iff.mp z).1
        rw [List.getElem?_eq_getElem (by rw [h.len]; exact lt)]
        exact ⟨v, rfl, hv⟩
    · rw [List.getElem?_set_ne c] at q ⊢
      exact h.get j e nj q
  · have c : i ≠ j := fun z => n (z ▸ oj)
    rw [List.getElem?_set_ne c] at q ⊢
    exact h.own j e oj q
  · have c1 : i ≠ j := fun z => n (z ▸ oj)
    have c2 : i ≠ k := fun z => n (z ▸ ok)
    rw [List.getElem?_set_ne c1] at hj q
    rw [List.getElem?_set_ne c2] at hk ⊢
    exact h.dj j k a oj ok ne hj hk q
theorem IsE.unset {Z : Cz} {O : List Nat} {H : Hp} {p : Pl} {σ : L2.St} {ρ : Env} (h : IsE Z O H p σ ρ) {i : Nat} : IsE Z O H p (σ.set i none) (ρ.set i none) := by
  have step : ∀ (j : Nat) (e : Dat), (ρ.set i none)[j]? = some (some e) → i ≠ j ∧ ρ[j]? = some (some e) := fun j e q => by
    by_cases c : i = j
    · subst c
      rw [List.getElem?_set_self'] at q
      cases z : ρ[i]? with
      | none => rw [z] at q; cases q
      | some w => rw [z] at q; cases q
    · rw [List.getElem?_set_ne c] at q
      exact ⟨c, q⟩
  refine ⟨by rw [List.length_set, List.length_set]; exact h.len, fun j e nj q => ?_, fun j e oj q => ?_, fun j k a oj ok ne hj hk q => ?_⟩
  · obtain ⟨c, z⟩ := step j e q
    rw [List.getElem?_set_ne c]
    exact h.get j e nj z
  · obtain ⟨c, z⟩ := step j e q
    rw [List.getElem?_set_ne c]
    exact h.own j e oj z
  · obtain ⟨d1, hj⟩ := hj
    obtain ⟨d2, hk⟩ := hk
    obtain ⟨c1, z1⟩ := step j d1 hj
    obtain ⟨c2, z2⟩ := step k d2 hk
    rw [List.getElem?_set_ne c1] at q
    rw [List.getElem?_set_ne c2]
    exact h.dj j k a oj ok ne ⟨d1, z1⟩ ⟨d2, z2⟩ q
def wipeE (ρ : Env) : List Nat → Env
  | [] => ρ
  | v :: vs => (wipeE ρ vs).set v none
theorem IsE.wipe {Z : Cz} {O : List Nat} {H : Hp} {p : Pl} {σ : L2.St} {ρ : Env} (h : IsE Z O H p σ ρ) : ∀ vs : List Nat, IsE Z O H p (L2.wipe σ vs) (wipeE ρ vs)
  | [] => h
  | v :: vs => (IsE.wipe h vs).unset
theorem wipe_set {i : Nat} {x : Option V} : ∀ {vs : List Nat} {σ : L2.St}, i ∈ vs → L2.wipe (σ.set i x) vs = L2.wipe σ vs
  | [], _, h => by cases h
  | v :: vs, σ, h => by
    by_cases c : i ∈ vs
    · unfold L2.wipe
      rw [wipe_set c]
    · have e : i = v := (List.mem_cons.mp h).resolve_right c
      subst e
      have comm : ∀ (ws : List Nat), i ∉ ws → L2.wipe (σ.set i x) ws = (L2.wipe σ ws).set i x := fun ws => by
        induction ws with
        | nil => intro _; rfl
        | cons w ws ih =>
          intro n
          unfold L2.wipe
          rw [ih fun z => n (List.mem_cons_of_mem _ z), List.set_comm _ _ fun z => n (by rw [z]; exact List.mem_cons_self)]
      unfold L2.wipe
      rw [comm vs c, List.set_set]
theorem wipe_put {σ : L2.St} : ∀ {vs : List Nat} {i : Nat}, i ∈ vs → (L2.wipe σ vs).set i none = L2.wipe σ vs
  | [], _, h => by cases h
  | v :: vs, i, h => by
    unfold L2.wipe
    by_cases c : v = i
    · subst c
      rw [List.set_set]
    · rw [List.set_comm _ _ c, wipe_put ((List.mem_cons.mp h).resolve_left fun z => c z.symm)]
theorem wipe_sub {σ : L2.St} {vs : List Nat} : ∀ ws : List Nat, (∀ w ∈ ws, w ∈ vs) → L2.wipe (L2.wipe σ vs) ws = L2.wipe σ vs
  | [], _ => rfl
  | w :: ws, h => by
    show (L2.wipe (L2.wipe σ vs) ws).set w none = L2.wipe σ vs
    rw [wipe_sub ws fun x m => h x (List.mem_cons_of_mem _ m), wipe_put (h w List.mem_cons_self)]
theorem wipe_wipe (σ : L2.St) (vs : List Nat) : L2.wipe (L2.wipe σ vs) vs = L2.wipe σ vs := wipe_sub vs fun _ h => h
def gN (i : Nat) (ρ : Env) (d : Dat) : Option Env := some (ρ.set i (some d))
def gT (n : Nat) (t : Env → List Dat → Option Env) (ρ : Env) (d : Dat) : Option Env := match d with
  | .tup ds => if ds.length = n then t ρ ds else none
  | _ => none
def gNl (ρ : Env) (ds : List Dat) : Option Env := match ds with
  | [] => some ρ
  | _ => none
def gCo (t : Env → Dat → Option Env) (u : Env → List Dat → Option Env) (ρ : Env) (ds : List Dat) : Option Env := match ds with
  | d :: r => (t ρ d).bind fun ρ' => u ρ' r
  | [] => none
section
variable {Z : Cz} {Er : ErW} {O : List Nat} {vs : Option (List Nat)} {te ta tb tc : TE} {tt tu : TT} {m m1 m2 m3 : Env → M Dat} {mb mc : Env → M Bool} {tl : TA} {ml : Env → M (List Dat)}
theorem jg_name {i : Nat} (n : i ∉ O) (hi : ∀ w, vs = some w → i ∈ w) : JG Z O (gName i) (gN i) vs := fun v σ H p ρ d R hE hv h => by
  obtain ⟨ρ', e, k⟩ := h
  cases e
  exact k _ (hE.set n hv) fun w e => wipe_set (hi w e)
theorem jg_nil : JGs Z O gNil gNl vs := fun v σ H p ρ d R hE hv h => by
  obtain ⟨ρ', e, k⟩ := h
  cases d with
  | nil =>
    cases e
    exact ⟨isDs_nil.mp hv, k _ hE fun _ _ => rfl⟩
  | cons _ _ => cases e
theorem jg_cons {t : TG} {u : TGs} {a : Env → Dat → Option Env} {b : Env → List Dat → Option Env} (h1 : JG Z O t a vs) (h2 : JGs Z O u b vs) : JGs Z O (gCons t u) (gCo a b) vs := fun v σ H p ρ d R hE hv h => by
  obtain ⟨ρ', e, k⟩ := h
  cases d with
  | nil => cases e
  | cons d r =>
    obtain ⟨x, xs, rfl, hx, hxs⟩ := isDs_cons.mp hv
    have e : (a ρ d).bind (fun ρ' => b ρ' r) = some ρ' := e
    cases q : a ρ d with
    | none => rw [q] at e; cases e
    | some ρ1 =>
      rw [q] at e
      exact ⟨x, xs, rfl, h1 x σ H p ρ d _ hE hx ⟨ρ1, q, fun σ1 hE1 w1 => h2 xs σ1 H p ρ1 r _ hE1 hxs ⟨ρ', e, fun σ2 hE2 w2 => k σ2 hE2 fun w ew => (w2 w ew).trans (w1 w ew)⟩⟩⟩
theorem jg_tup {n : Nat} {t : TGs} {u : Env → List Dat → Option Env} (h1 : JGs Z O t u vs) : JG Z O (gTup Z.K n t) (gT n u) vs := fun v σ H p ρ d R hE hv h => by
  obtain ⟨ρ', e, k⟩ := h
  cases d with
  | tup ds =>
    obtain ⟨a, xs, rfl, ha, hx⟩ := isD_tup.mp hv
    have e : (if ds.length = n then u ρ ds else none) = some ρ' := e
    by_cases c : ds.length = n
    · rw [if_pos c] at e
      exact ⟨a, xs, rfl, ha.sq, hx.len.trans c, h1 xs σ H p ρ ds R hE hx ⟨ρ', e, k⟩⟩
    · rw [if_neg c] at e
      cases e
  | _ => cases e

/-! ### statements -/
def FlowOk (Z : Cz) (O : List Nat) (D : Ends) (f : Flow) (H : Hp) (p : Pl) : Prop := match f with
  | .nx ρ => ∀ σ, IsE Z O H p σ ρ → D.nx σ H
  | .rt d => ∀ v, IsW Z H p v d → D.rt v H
  | .bk ρ => ∀ σ, IsE Z O H p σ ρ → D.bk σ H
  | .ct ρ => ∀ σ, IsE Z O H p σ ρ → D.ct σ H
def JS (Z : Cz) (Er : ErW) (O : List Nat) (ts : TS) (m : Env → M Flow) : Prop :=
  ∀ (σ : L2.St) (H : Hp) (p : Pl) (ρ : Env) (S : List Dat) (D : Ends), IsE Z O H p σ ρ → IsS Z H p S → Post Z Er Ext (m ρ S) H p (fun f _ H' p' => FlowOk Z O D f H' p') → ts D σ H
/-- behind an expression -/
theorem Post.bndE {α β : Type} {S : List Dat} {H : Hp} {p : Pl} {m : M α} {f : α → M β} {C : β → List Dat → Hp → Pl → Prop} (h : Post Z Er Ext ((m >>= f) S) H p C) : Post Z Er ExtE (m S) H p fun a S' H' p' => Post Z Er Ext (f a S') H' p' C := (h.bnd xS).of xS
def sNx (ρ : Env) : M Flow := pure (.nx ρ)
def sSeq (a b : Env → M Flow) (ρ : Env) : M Flow := a ρ >>= fun f => match f with
  | .nx ρ' => b ρ'
  | g => pure g
variable {ts tr : TS} {ms mr : Env → M Flow}
theorem js_next : JS Z Er O tNext sNx := fun σ H p ρ S D hE hS q => q.pure xS hS σ hE
theorem js_seq (h1 : JS Z Er O ts ms) (h2 : JS Z Er O tr mr) : JS Z Er O (tSeq ts tr) (sSeq ms mr) := fun σ H p ρ S D hE hS q =>
  h1 σ H p ρ S _ hE hS ((q.bnd xS).mono fun f S1 H1 p1 e1 s1 q1 => by
    cases f with
    | nx ρ1 => exact fun σ1 hE1 => h2 σ1 H1 p1 ρ1 S1 D hE1 s1 q1
    | rt d => exact Post.pure xS q1 s1
    | bk ρ1 => exact Post.pure xS q1 s1
    | ct ρ1 => exact Post.pure xS q1 s1)
def sAsg (a : Env → M Dat) (g : Env → Dat → Option Env) (ρ : Env) : M Flow := a ρ >>= fun d => M.opt (g ρ d) >>= fun ρ' => pure (.nx ρ')
theorem js_asg {g : TG} {gm : Env → Dat → Option Env} (ha : JD Z Er O ta m1) (hg : JG Z O g gm none) : JS Z Er O (tAsg ta g) (sAsg m1 gm) := fun σ H p ρ S D hE hS q =>
  ha σ H p ρ S _ hE hS (q.bndE.mono fun d S1 H1 p1 e1 s1 q1 v hv => by
    obtain ⟨ρ1, e, q2⟩ := q1.opt
    exact hg v σ H1 p1 ρ d _ (hE.ext e1 hS) hv ⟨ρ1, e, fun σ' hE' _ => q2.pure xS s1 σ' hE'⟩)
def sRet (a : Env → M Dat) (ρ : Env) : M Flow := a ρ >>= fun d => pure (.rt d)
theorem js_ret (ha : JW Z Er O ta m1) : JS Z Er O (tRet ta) (sRet m1) := fun σ H p ρ S D hE hS q =>
  ha σ H p ρ S _ hE hS (q.bndE.mono fun d S1 H1 p1 e1 s1 q1 v hv => q1.pure xS s1 v hv)
def sRetN (ρ : Env) : M Flow := pure (.rt .non)
theorem js_retN : JS Z Er O tRetN sRetN := fun σ H p ρ S D hE hS q => q.pure xS hS .non ((isD_non (Z := Z) (H := H) (p := p)).mpr rfl)
def sDrop (a : Env → M Dat) (ρ : Env) : M Flow := a ρ >>= fun _ => pure (.nx ρ)
theorem js_drop (ha : JD Z Er O ta m1) : JS Z Er O (tDrop ta) (sDrop m1) := fun σ H p ρ S D hE hS q =>
  ha σ H p ρ S _ hE hS (q.bndE.mono fun d S1 H1 p1 e1 s1 q1 v hv => q1.pure xS s1 σ (hE.ext e1 hS))
def sIf (c : Env → M Bool) (a b : Env → M Flow) (ρ : Env) : M Flow := c ρ >>= fun x => if x = true then a ρ else b ρ
theorem js_if (hc : JB Z Er O tt mb) (h1 : JS Z Er O ts ms) (h2 : JS Z Er O tr mr) : JS Z Er O (tIfS tt ts tr) (sIf mb ms mr) := fun σ H p ρ S D hE hS q =>
  hc σ H p ρ S _ hE hS (q.bndE.mono fun b S1 H1 p1 e1 s1 q1 c hc => by
    subst hc
    cases c with
    | true => exact h1 σ H1 p1 ρ S1 D (hE.ext e1 hS) s1 q1
    | false => exact h2 σ H1 p1 ρ S1 D (hE.ext e1 hS) s1 q1)
def sNo (_ : Env) : M Flow := M.no
theorem js_never : JS Z Er O tNever sNo := fun σ H p ρ S D hE hS q => (show False from q)
def sPar (i j : Nat) (l : Env → M (List Dat)) (ρ : Env) : M Flow := l ρ >>= fun ds => match ds with
  | [a, b] => pure (.nx ((ρ.set i (some a)).set j (some b)))
  | _ => M.no
theorem js_par {i j : Nat} (ni : i ∉ O) (nj : j ∉ O) (hl : JA Z Er O tl ml) : JS Z Er O (tPar i j tl) (sPar i j ml) := fun σ H p ρ S D hE hS q =>
  hl σ H p ρ S _ hE hS (q.bndE.mono fun ds S1 H1 p1 e1 s1 q1 vs hv => by
    match ds, hv, q1 with
    | [a, b], hv, q1 =>
      obtain ⟨x, r, rfl, hx, hr⟩ := isDs_cons.mp hv
      obtain ⟨y, r2, rfl, hy, hr2⟩ := isDs_cons.mp hr
      rw [isDs_nil.mp hr2]
      exact ⟨x, y, rfl, q1.pure xS s1 _ (((hE.ext e1 hS).set ni hx).set nj hy)⟩
    | [], _, q1 => exact (show False from q1).elim
    | [_], _, q1 => exact (show False from q1).elim
    | _ :: _ :: _ :: _, _, q1 => exact (show False from q1).elim)
def sPar3 (i j k : Nat) (l : Env → M (List Dat)) (ρ : Env) : M Flow := l ρ >>= fun ds => match ds with
  | [a, b, c] => pure (.nx (((ρ.set i (some a)).set j (some b)).set k (some c)))
  | _ => M.no
theorem js_par3 {i j k : Nat} (ni : i ∉ O) (nj : j ∉ O) (nk : k ∉ O) (hl : JA Z Er O tl ml) : JS Z Er O (tPar3 i j k tl) (sPar3 i j k ml) := fun σ H p ρ S D hE hS q =>
  hl σ H p ρ S _ hE hS (q.bndE.mono fun ds S1 H1 p1 e1 s1 q1 vs hv => by
    match ds, hv, q1 with
    | [a, b, c], hv, q1 =>
      obtain ⟨x, r, rfl, hx, hr⟩ := isDs_cons.mp hv
      obtain ⟨y, r2, rfl, hy, hr2⟩ := isDs_cons.mp hr
      obtain ⟨z, r3, rfl, hz, hr3⟩ := isDs_cons.mp hr2
      rw [isDs_nil.mp hr3]
      exact ⟨x, y, z, rfl, q1.pure xS s1 _ ((((hE.ext e1 hS).set ni hx).set nj hy).set nk hz)⟩
    | [], _, q1 => exact (show False from q1).elim
    | [_], _, q1 => exact (show False from q1).elim
    | [_, _], _, q1 => exact (show False from q1).elim
    | _ :: _ :: _ :: _ :: _, _, q1 => exact (show False from q1).elim)

/-! ### what is walked -/
/-- from (H0, p0) on, along X, the walk J gives the items ds, one after another -/
def Walks (Z : Cz) (X : XR) (Jt : It) (ds : List Dat) (H0 : Hp) (p0 : Pl) : Prop := ∀ H p S (i : Nat), X H0 p0 H p → IsS Z H p S →
  (i < ds.length → Jt.go i H ∧ ∀ x H', Jt.yld i H x H' → Same H H' ∧ ∃ d, ds[i]? = some d ∧ IsD Z H' p x d) ∧ (ds.length = i → Jt.stop i H)
def JI (Z : Cz) (Er : ErW) (O : List Nat) (X : XR) (wi : TI) (m : Env → M (List Dat)) : Prop :=
  ∀ (σ : L2.St) (H : Hp) (p : Pl) (ρ : Env) (S : List Dat) (R : It → Hp → Prop), IsE Z O H p σ ρ → IsS Z H p S → Post Z Er ExtE (m ρ S) H p (fun ds _ H' p' => ∀ Jt, Walks Z X Jt ds H' p' → R Jt H') → wi σ H R
def dLst : Dat → Option (List Dat)
  | .lst ds => some ds
  | _ => none
def dTup : Dat → Option (List Dat)
  | .tup ds => some ds
  | _ => none
theorem dLst_some {d : Dat} {ds : List Dat} (h : dLst d = some ds) : d = .lst ds := by
  cases d <;> first | (cases h; rfl) | cases h
theorem dTup_some {d : Dat} {ds : List Dat} (h : dTup d = some ds) : d = .tup ds := by
  cases d <;> first | (cases h; rfl) | cases h
def iLst (a : Env → M Dat) (ρ : Env) : M (List Dat) := a ρ >>= fun d => M.opt (dLst d)
def iTp (a : Env → M Dat) (ρ : Env) : M (List Dat) := a ρ >>= fun d => M.opt (dTup d)
theorem walks_list {X : XR} (x : XOk X) {H : Hp} {p : Pl} {a : Addr} {xs : List V} {ds : List Dat} (h : LstAt Z H p a xs) (hd : IsDs Z H p xs ds) : Walks Z X (Itl Z.K a) ds H p := fun H1 p1 S1 i e s => by
  have h1 := (h.ext (x.s e)).sq
  have hd1 := hd.ext (x.s e)
  refine ⟨fun lt => ?_, fun le => ⟨xs, h1, by rw [hd.len]; exact Nat.le_of_eq le⟩⟩
  have hi := List.getElem?_eq_getElem lt
  obtain ⟨v, g1, g2⟩ := hd1.get hi
  refine ⟨⟨xs, v, h1, g1⟩, fun y H' ⟨eq, k⟩ => ?_⟩
  subst eq
  have := k xs h1
  rw [g1] at this
  cases this
  exact ⟨Same.refl _, _, hi, g2⟩
theorem walks_tup {X : XR} (x : XOk X) {H : Hp} {p : Pl} {a : Addr} {xs : List V} {ds : List Dat} (h : TupAt Z H p a xs) (hd : IsDs Z H p xs ds) : Walks Z X (Itt Z.K a) ds H p := fun H1 p1 S1 i e s => by
  have h1 := (h.ext (x.s e)).sq
  have hd1 := hd.ext (x.s e)
  refine ⟨fun lt => ?_, fun le => ⟨xs, h1, by rw [hd.len]; exact Nat.le_of_eq le⟩⟩
  have hi := List.getElem?_eq_getElem lt
  obtain ⟨v, g1, g2⟩ := hd1.get hi
  refine ⟨⟨xs, v, h1, g1⟩, fun y H' ⟨eq, k⟩ => ?_⟩
  subst eq
  have := k xs h1
  rw [g1] at this
  cases this
  exact ⟨Same.refl _, _, hi, g2⟩
theorem ji_list {X : XR} (x : XOk X) (ha : JD Z Er O ta m1) : JI Z Er O X (iList Z.K ta) (iLst m1) := fun σ H p ρ S R hE hS q =>
  ha σ H p ρ S _ hE hS ((q.bnd xE).mono fun d S1 H1 p1 e1 s1 q1 v hv => by
    obtain ⟨ds, e, k⟩ := opt_pure xE q1 s1
    rw [dLst_some e] at hv
    obtain ⟨a, xs, rfl, h1, h2⟩ := isD_lst.mp hv
    exact ⟨a, rfl, ⟨xs, h1.sq⟩, k _ (walks_list x h1 h2)⟩)
theorem ji_tup {X : XR} (x : XOk X) (ha : JD Z Er O ta m1) : JI Z Er O X (iTup Z.K ta) (iTp m1) := fun σ H p ρ S R hE hS q =>
  ha σ H p ρ S _ hE hS ((q.bnd xE).mono fun d S1 H1 p1 e1 s1 q1 v hv => by
    obtain ⟨ds, e, k⟩ := opt_pure xE q1 s1
    rw [dTup_some e] at hv
    obtain ⟨a, xs, rfl, h1, h2⟩ := isD_tup.mp hv
    exact ⟨a, rfl, ⟨xs, h1.sq⟩, k _ (walks_tup x h1 h2)⟩)
/-- lo, lo + 1, .. -/
def intsD (lo : Int) (n : Nat) : List Dat := (List.range n).map fun (k : Nat) => Dat.int (lo + k)
theorem walks_rng {X : XR} {H : Hp} {p : Pl} {lo : Int} {n : Nat} : Walks Z X (Itr lo n) (intsD lo n) H p := fun H1 p1 S1 i e s => by
  unfold intsD
  rw [List.length_map, List.length_range]
  refine ⟨fun lt => ⟨lt, fun y H' ⟨eq, k⟩ => ?_⟩, fun le => Nat.le_of_eq le⟩
  subst eq k
  refine ⟨Same.refl _, _, ?_, isD_int.mpr rfl⟩
  rw [List.getElem?_map, List.getElem?_range lt]
  rfl
def iRg (l : Env → M (List Dat)) (ρ : Env) : M (List Dat) := l ρ >>= fun ds => match ds with
  | [.int j] => M.need (decide (-(2 ^ 62) ≤ j ∧ j < 2 ^ 62)) >>= fun _ => pure (intsD 0 j.toNat)
  | [.int i, .int j] => M.need (decide (-(2 ^ 62) ≤ i ∧ i < 2 ^ 62 ∧ -(2 ^ 62) ≤ j ∧ j < 2 ^ 62)) >>= fun _ => pure (intsD i (j - i).toNat)
  | _ => M.no
theorem ji_rng1 {X : XR} (hl : JA Z Er O tl ml) : JI Z Er O X (iRng1 tl) (fun ρ => ml ρ >>= fun ds => match ds with
    | [.int j] => M.need (decide (-(2 ^ 62) ≤ j ∧ j < 2 ^ 62)) >>= fun _ => pure (intsD 0 j.toNat)
    | _ => M.no) := fun σ H p ρ S R hE hS q =>
  hl σ H p ρ S _ hE hS ((q.bnd xE).mono fun ds S1 H1 p1 e1 s1 q1 vs hv => by
    split at q1
    · rename_i j
      obtain ⟨c, q2⟩ := q1.need
      obtain ⟨x, r, rfl, hx, hr⟩ := isDs_cons.mp hv
      rw [isDs_nil.mp hr, isD_int.mp hx]
      have c := of_decide_eq_true c
      exact ⟨j, rfl, c.1, c.2, q2.pure xE s1 _ walks_rng⟩
    · exact (show False from q1).elim)
theorem ji_rng2 {X : XR} (hl : JA Z Er O tl ml) : JI Z Er O X (iRng2 tl) (fun ρ => ml ρ >>= fun ds => match ds with
    | [.int i, .int j] => M.need (decide (-(2 ^ 62) ≤ i ∧ i < 2 ^ 62 ∧ -(2 ^ 62) ≤ j ∧ j < 2 ^ 62)) >>= fun _ => pure (intsD i (j - i).toNat)
    | _ => M.no) := fun σ H p ρ S R hE hS q =>
  hl σ H p ρ S _ hE hS ((q.bnd xE).mono fun ds S1 H1 p1 e1 s1 q1 vs hv => by
    split at q1
    · rename_i i j
      obtain ⟨c, q2⟩ := q1.need
      obtain ⟨x, r, rfl, hx, hr⟩ := isDs_cons.mp hv
      obtain ⟨y, r2, rfl, hy, hr2⟩ := isDs_cons.mp hr
      rw [isDs_nil.mp hr2, isD_int.mp hx, isD_int.mp hy]
      exact ⟨i, j, rfl, of_decide_eq_true c, q2.pure xE s1 _ walks_rng⟩
    · exact (show False from q1).elim)

/-! ### for -/
def forD (g : Env → Dat → Option Env) (b : Env → M Flow) : List Dat → Env → M Flow
  | [], ρ => pure (.nx ρ)
  | d :: ds, ρ => M.opt (g ρ d) >>= fun ρ1 => b ρ1 >>= fun f => match f with
    | .nx ρ2 => forD g b ds ρ2
    | .ct ρ2 => forD g b ds ρ2
    | .bk ρ2 => pure (.nx ρ2)
    | .rt d => pure (.rt d)
def sFor (it : Env → M (List Dat)) (g : Env → Dat → Option Env) (b : Env → M Flow) (ρ : Env) : M Flow := it ρ >>= fun ds => forD g b ds ρ
theorem drop_cons {α : Type} {l : List α} {i : Nat} (h : i < l.length) : l.drop i = l[i] :: l.drop (i + 1) := List.drop_eq_getElem_cons h
theorem js_for {wi : TI} {it : Env → M (List Dat)} {g : TG} {gm : Env → Dat → Option Env} (hi : JI Z Er O Ext wi it) (hg : JG Z O g gm none) (hb : JS Z Er O ts ms) : JS Z Er O (tFor wi g ts) (sFor it gm ms) := fun σ H p ρ S D hE hS q =>
  hi σ H p ρ S _ hE hS (q.bndE.mono fun ds S1 H1 p1 e1 s1 q1 Jt hJ => by
    refine ⟨fun i n σ' H' => n = ds.length - i ∧ i ≤ ds.length ∧ ∃ p' ρ' S', Ext H1 p1 H' p' ∧ IsE Z O H' p' σ' ρ' ∧ IsS Z H' p' S' ∧ Post Z Er Ext (forD gm ms (ds.drop i) ρ' S') H' p' (fun f _ H' p' => FlowOk Z O D f H' p'),
      ⟨_, rfl, Nat.zero_le _, p1, ρ, S1, Ext.refl, hE.ext e1 hS, s1, q1⟩, ?_⟩
    rintro i n σ' H' ⟨rfl, le, p', ρ', S', ex, hE', hS', q'⟩
    by_cases lt : i < ds.length
    · have W := (hJ H' p' S' i ex hS').1 lt
      refine .inr ⟨W.1, fun σ2 H2 => ∃ p2 ρ2 S2, Ext H1 p1 H2 p2 ∧ IsE Z O H2 p2 σ2 ρ2 ∧ IsS Z H2 p2 S2 ∧ Post Z Er Ext (forD gm ms (ds.drop (i + 1)) ρ2 S2) H2 p2 (fun f _ H' p' => FlowOk Z O D f H' p'),
        fun σ2 H2 ⟨p2, ρ2, S2, a, b, c, d⟩ => ⟨_, by omega, rfl, lt, p2, ρ2, S2, a, b, c, d⟩, fun x Hx y => ?_⟩
      obtain ⟨sm, d, ed, hd⟩ := W.2 x Hx y
      have ed' : ds[i] = d := by
        rw [List.getElem?_eq_getElem lt] at ed
        exact Option.some.inj ed
      rw [drop_cons lt, ed'] at q'
      have eN : ExtE H' p' Hx p' := ExtE.same sm
      have q2 : Post Z Er Ext (forD gm ms (d :: ds.drop (i + 1)) ρ' S') Hx p' (fun f _ H' p' => FlowOk Z O D f H' p') := by
        unfold Post at q' ⊢
        cases z : forD gm ms (d :: ds.drop (i + 1)) ρ' S' with
        | ok a S2 => rw [z] at q'; exact fun H3 p3 e3 s3 => q' H3 p3 (eN.s.trans e3) s3
        | er a b S2 => rw [z] at q'; exact fun H3 p3 e3 s3 => q' H3 p3 (eN.s.trans e3) s3
        | bad => rw [z] at q'; exact q'
      obtain ⟨ρ1, e, q3⟩ := q2.opt
      refine hg x σ' Hx p' ρ' d _ (hE'.ext eN hS') hd ⟨ρ1, e, fun σ1 hE1 _ => hb σ1 Hx p' ρ1 S' _ hE1 (hS'.ext sm) ((q3.bnd xS).mono fun f S2 H2 p2 e2 s2 q4 => ?_)⟩
      have exx := (ex.trans eN.s).trans e2
      cases f with
      | nx ρ2 => exact fun σ2 hE2 => ⟨p2, ρ2, S2, exx, hE2, s2, q4⟩
      | ct ρ2 => exact fun σ2 hE2 => ⟨p2, ρ2, S2, exx, hE2, s2, q4⟩
      | bk ρ2 => exact fun σ2 hE2 => Post.pure xS q4 s2 σ2 hE2
      | rt d2 => exact fun v hv => Post.pure xS q4 s2 v hv
    · have e : i = ds.length := by omega
      subst e
      rw [List.drop_length] at q'
      exact .inl ⟨(hJ H' p' S' _ ex hS').2 rfl, Post.pure xS q' hS' σ' hE'⟩)

/-! ### comprehensions -/
def compD (g : Env → Dat → Option Env) (c : Env → M Bool) (e : Env → M Dat) (ρ : Env) : List Dat → M (List Dat)
  | [] => pure []
  | d :: ds => M.opt (g ρ d) >>= fun ρ1 => c ρ1 >>= fun b => if b = true then e ρ1 >>= fun x => compD g c e ρ ds >>= fun xs => pure (x :: xs) else compD g c e ρ ds
def xLc (it : Env → M (List Dat)) (g : Env → Dat → Option Env) (c : Env → M Bool) (e : Env → M Dat) (vs : List Nat) (ρ : Env) : M Dat :=
  it ρ >>= fun ds => M.need (decide (ds.length ≤ 100000)) >>= fun _ => compD g c e (wipeE ρ vs) ds >>= fun es => pure (.lst es)
theorem Post.up {α : Type} {o : Out α} {H : Hp} {p : Pl} {C : α → List Dat → Hp → Pl → Prop} {X : XR} (x : XOk X) (q : Post Z Er X o H p C) {H' : Hp} {p' : Pl} (e : X H p H' p') : Post Z Er X o H' p' C := by
  unfold Post at q ⊢
  cases o with
  | ok a S2 => exact fun H3 p3 e3 s3 => q H3 p3 (x.trans e e3) s3
  | er a b S2 => exact fun H3 p3 e3 s3 => q H3 p3 (x.trans e e3) s3
  | bad => exact q
/-- as in an expression, but for new own places -/
structure ExtC (H : Hp) (p : Pl) (H' : Hp) (p' : Pl) : Prop where
  α : ∃ β, p'.α = p.α ++ β ∧ ∀ b ∈ β, H b = none
  ω : ∃ β, p'.ω = p.ω ++ β ∧ ∀ b ∈ β, H b = none
  γ : p'.γ = p.γ
  k : ∀ a o, H a = some o → a ∉ p.α → H' a = some o
  t : ∀ a, H a ≠ none → H' a ≠ none
theorem ExtC.s {H H' : Hp} {p p' : Pl} (e : ExtC H p H' p') : Ext H p H' p' := ⟨e.α, e.ω, e.γ, fun a o h n _ => e.k a o h n, e.t⟩
theorem ExtE.c {H H' : Hp} {p p' : Pl} (e : ExtE H p H' p') : ExtC H p H' p' := ⟨e.α, ⟨[], by rw [e.ω, List.append_nil], by simp⟩, e.γ, e.k, e.t⟩
theorem xCo : XOk ExtC := ⟨ExtE.refl.c, fun e f => ⟨fresh_app e.t e.α f.α, fresh_app e.t e.ω f.ω, f.γ.trans e.γ, fun a o h n => f.k a o (e.k a o h n) (not_fresh e.α h n), fun a h => f.t a (e.t a h)⟩, ExtE.c, ExtC.s⟩
mutual
theorem IsD.mv {H : Hp} {p p' : Pl} (e : ∀ (n : Nat) (x : Addr), p.α[n]? = some x → p'.α[n]? = some x) (l : ∀ a, p'.has a → p.has a) : ∀ (d : Dat) {v : V}, IsD Z H p v d → IsD Z H p' v d
  | .non, _, h => by unfold IsD at h ⊢; exact h
  | .bl b, _, h => by unfold IsD at h ⊢; exact h
  | .int i, _, h => by unfold IsD at h ⊢; exact h
  | .str x, _, h => by unfold IsD at h ⊢; exact h
  | .ty n, _, h => by unfold IsD at h ⊢; exact h
  | .cls c, _, h => by unfold IsD at h ⊢; exact h
  | .scr ns, _, h => by
    obtain ⟨a, rfl, h1⟩ := isD_scr.mp h
    exact isD_scr.mpr ⟨a, rfl, h1.imp (fun q => ⟨q.1, fun z => q.2 (l a z)⟩) id⟩
  | .tup ds, _, h => by
    obtain ⟨a, vs, rfl, h1, h2⟩ := isD_tup.mp h
    exact isD_tup.mpr ⟨a, vs, rfl, h1.imp (fun q => ⟨q.1, fun z => q.2 (l a z)⟩) id, IsDs.mv e l ds h2⟩
  | .lst ds, _, h => by
    obtain ⟨a, vs, rfl, h1, h2⟩ := isD_lst.mp h
    exact isD_lst.mpr ⟨a, vs, rfl, ⟨h1.1, fun z => h1.2 (l a z)⟩, IsDs.mv e l ds h2⟩
  | .dic ks ds, _, h => by
    obtain ⟨a, vs, rfl, h1, hl, h2⟩ := isD_dic.mp h
    exact isD_dic.mpr ⟨a, vs, rfl, ⟨h1.1, fun z => h1.2 (l a z)⟩, hl, IsDs.mv e l ds h2⟩
  | .obj c fs ds, _, h => by
    obtain ⟨a, vs, rfl, h1, hl, h2⟩ := isD_obj.mp h
    exact isD_obj.mpr ⟨a, vs, rfl, ⟨h1.1, fun z => h1.2 (l a z)⟩, hl, IsDs.mv e l ds h2⟩
  | .loc n, _, h => by
    obtain ⟨a, rfl, h1⟩ := isD_loc.mp h
    exact isD_loc.mpr ⟨a, rfl, e _ _ h1⟩
theorem IsDs.mv {H : Hp} {p p' : Pl} (e : ∀ (n : Nat) (x : Addr), p.α[n]? = some x → p'.α[n]? = some x) (l : ∀ a, p'.has a → p.has a) : ∀ (ds : List Dat) {vs : List V}, IsDs Z H p vs ds → IsDs Z H p' vs ds
  | [], _, h => isDs_nil.mpr (isDs_nil.mp h)
  | d :: ds, _, h => by
    obtain ⟨v, r, rfl, h1, h2⟩ := isDs_cons.mp h
    exact isDs_cons.mpr ⟨v, r, rfl, IsD.mv e l d h1, IsDs.mv e l ds h2⟩
end
theorem IsD.less {H : Hp} {p p' : Pl} (e : p'.α = p.α) (l : ∀ a, p'.has a → p.has a) (d : Dat) {v : V} (h : IsD Z H p v d) : IsD Z H p' v d := IsD.mv (fun _ _ q => by rw [e]; exact q) l d h
theorem IsDs.less {H : Hp} {p p' : Pl} (e : p'.α = p.α) (l : ∀ a, p'.has a → p.has a) (ds : List Dat) {vs : List V} (h : IsDs Z H p vs ds) : IsDs Z H p' vs ds := IsDs.mv (fun _ _ q => by rw [e]; exact q) l ds h
theorem IsTop.mv {H : Hp} {p p' : Pl} (e : ∀ (n : Nat) (x : Addr), p.α[n]? = some x → p'.α[n]? = some x) (l : ∀ a, p'.has a → p.has a) {a : Addr} {d : Dat} (h : IsTop Z H p a d) : IsTop Z H p' a d := by
  cases d with
  | lst ds => obtain ⟨vs, e1, h1⟩ := h; exact ⟨vs, e1, IsDs.mv e l _ h1⟩
  | dic ks ds => obtain ⟨vs, e1, n, h1⟩ := h; exact ⟨vs, e1, n, IsDs.mv e l _ h1⟩
  | obj c fs ds => obtain ⟨dx, vs, e1, n, h1⟩ := h; exact ⟨dx, vs, e1, n, IsDs.mv e l _ h1⟩
  | _ => exact h.elim
theorem IsTop.less {H : Hp} {p p' : Pl} (e : p'.α = p.α) (l : ∀ a, p'.has a → p.has a) {a : Addr} {d : Dat} (h : IsTop Z H p a d) : IsTop Z H p' a d := by
  cases d with
  | lst ds => obtain ⟨vs, e1, h1⟩ := h; exact ⟨vs, e1, IsDs.less e l _ h1⟩
  | dic ks ds => obtain ⟨vs, e1, n, h1⟩ := h; exact ⟨vs, e1, n, IsDs.less e l _ h1⟩
  | obj c fs ds => obtain ⟨dx, vs, e1, n, h1⟩ := h; exact ⟨dx, vs, e1, n, IsDs.less e l _ h1⟩
  | _ => exact h.elim
/-- fewer own places -/
theorem IsS.less {H : Hp} {p : Pl} {S : List Dat} (s : IsS Z H p S) {ω : List Addr} (l : ∀ a ∈ ω, a ∈ p.ω) : IsS Z H ⟨p.α, ω, p.γ⟩ S :=
  have l2 : ∀ a, (⟨p.α, ω, p.γ⟩ : Pl).has a → p.has a := fun a h => h.imp id fun h => h.imp (l a) id
  ⟨s.len, s.nd, fun a h => s.dj a (l a h), s.dg, fun a h => s.wt a (h.imp (l a) id), fun n a d h1 h2 => IsTop.less (p := p) (p' := ⟨p.α, ω, p.γ⟩) rfl l2 (s.at_ n a d h1 h2)⟩
/-- a new own place -/
theorem ExtC.plus {H H1 : Hp} {p : Pl} {D : Addr} {α' : List Addr} (e : ExtE H p H1 ⟨α', p.ω, p.γ⟩) (nD : H D = none) : ExtC H p H1 ⟨α', p.ω ++ [D], p.γ⟩ :=
  ⟨e.α, ⟨[D], rfl, fun b h => by rw [List.mem_singleton.mp h]; exact nD⟩, rfl, e.k, e.t⟩
theorem Post.plus {α : Type} {o : Out α} {H : Hp} {p : Pl} {C : α → List Dat → Hp → Pl → Prop} (q : Post Z Er ExtE o H p C) {D : Addr} : Post Z Er ExtE o H ⟨p.α, p.ω ++ [D], p.γ⟩ (fun a S' H' p' => C a S' H' ⟨p'.α, p.ω, p'.γ⟩) := by
  have key : ∀ H' p' S', ExtE H ⟨p.α, p.ω ++ [D], p.γ⟩ H' p' → IsS Z H' p' S' → ExtE H p H' ⟨p'.α, p.ω, p'.γ⟩ ∧ IsS Z H' ⟨p'.α, p.ω, p'.γ⟩ S' := fun H' p' S' e s =>
    ⟨⟨e.α, rfl, e.γ, e.k, e.t⟩, s.less fun a h => by rw [e.ω]; exact List.mem_append_left _ h⟩
  unfold Post at q ⊢
  cases o with
  | ok a S2 => exact fun H' p' e s => q H' ⟨p'.α, p.ω, p'.γ⟩ (key H' p' S2 e s).1 (key H' p' S2 e s).2
  | er a b S2 => exact fun H' p' e s => q H' ⟨p'.α, p.ω, p'.γ⟩ (key H' p' S2 e s).1 (key H' p' S2 e s).2
  | bad => exact q
/-- the own place D is written, which no slot has -/
theorem IsE.put {H : Hp} {p : Pl} {σ : L2.St} {ρ : Env} (h : IsE Z O H p σ ρ) {D : Addr} {o : HO} (hD : D ∈ p.ω) (n : ∀ i ∈ O, σ[i]? ≠ some (some (.ref D))) : IsE Z O (L2.upd H D o) p σ ρ := by
  have e : Ext H p (L2.upd H D o) p := ⟨⟨[], by simp⟩, ⟨[], by simp⟩, rfl, fun a u e n1 n2 => by rw [upd_ne fun z => n2 (by rw [z]; exact hD)]; exact e, fun a na => by
    by_cases c : a = D
    · rw [c, upd_same]; exact nofun
    · rw [upd_ne c]; exact na⟩
  refine ⟨h.len, fun i d ni q => ?_, fun i d oi q => ?_, h.dj⟩
  · obtain ⟨v, h1, h2⟩ := h.get i d ni q
    exact ⟨v, h1, h2.ext e⟩
  · obtain ⟨a, h1, h2, h3⟩ := h.own i d oi q
    exact ⟨a, h1, h2, h3.ext e fun u z => by rw [upd_ne fun c => n i oi (by rw [← c]; exact h1)]; exact z⟩
theorem IsS.put {H : Hp} {p : Pl} {S : List Dat} (s : IsS Z H p S) {D : Addr} {o : HO} (hD : D ∈ p.ω) : IsS Z (L2.upd H D o) p S := by
  have e : Ext H p (L2.upd H D o) p := ⟨⟨[], by simp⟩, ⟨[], by simp⟩, rfl, fun a u e n1 n2 => by rw [upd_ne fun z => n2 (by rw [z]; exact hD)]; exact e, fun a na => by
    by_cases c : a = D
    · rw [c, upd_same]; exact nofun
    · rw [upd_ne c]; exact na⟩
  exact ⟨s.len, s.nd, s.dj, s.dg, fun a h => e.t a (s.wt a h), fun n a d h1 h2 => (s.at_ n a d h1 h2).ext e fun u z => by rw [upd_ne fun c => (s.dj D hD).1 (by rw [← c]; exact List.mem_of_getElem? h1)]; exact z⟩
theorem ext_put {H : Hp} {p : Pl} {D : Addr} {o : HO} (hD : D ∈ p.ω) : Ext H p (L2.upd H D o) p := ⟨⟨[], by simp⟩, ⟨[], by simp⟩, rfl, fun a u e n1 n2 => by rw [upd_ne fun z => n2 (by rw [z]; exact hD)]; exact e, fun a na => by
    by_cases c : a = D
    · rw [c, upd_same]; exact nofun
    · rw [upd_ne c]; exact na⟩
/-- a new own place comes into being -/
theorem own_new {H : Hp} {p : Pl} {S : List Dat} {σ : L2.St} {ρ : Env} (hE : IsE Z O H p σ ρ) (hS : IsS Z H p S) {D : Addr} {o : HO} (nD : H D = none) : IsE Z O (L2.upd H D o) ⟨p.α, p.ω ++ [D], p.γ⟩ σ ρ ∧ IsS Z (L2.upd H D o) ⟨p.α, p.ω ++ [D], p.γ⟩ S := by
  have e : Ext H p (L2.upd H D o) ⟨p.α, p.ω ++ [D], p.γ⟩ := (ExtC.plus (ExtE.new nD) nD).s
  have hD := no_has hS nD
  refine ⟨⟨hE.len, fun i d ni q => ?_, fun i d oi q => ?_, hE.dj⟩, ⟨hS.len, hS.nd, fun a h => ?_, hS.dg, fun a h => ?_, fun n a d h1 h2 => ?_⟩⟩
  · obtain ⟨v, h1, h2⟩ := hE.get i d ni q
    exact ⟨v, h1, h2.ext e⟩
  · obtain ⟨a, h1, h2, h3⟩ := hE.own i d oi q
    exact ⟨a, h1, List.mem_append_left _ h2, h3.ext e fun u z => (upd_ne (ne_of_none z nD)).trans z⟩
  · rcases List.mem_append.mp h with h | h
    · exact hS.dj a h
    · rw [List.mem_singleton.mp h]
      exact ⟨fun z => hD (.inl z), fun z => hD (.inr (.inr z))⟩
  · rcases h with h | h
    · rcases List.mem_append.mp h with h | h
      · exact e.t a (hS.wt a (.inl h))
      · rw [List.mem_singleton.mp h, upd_same]
        exact nofun
    · exact e.t a (hS.wt a (.inr h))
  · exact (hS.at_ n a d h1 h2).ext e fun u z => (upd_ne (ne_of_none z nD)).trans z
theorem jf_lc {wi : TI} {it : Env → M (List Dat)} {g : TG} {gm : Env → Dat → Option Env} {vs : List Nat} (hi : JI Z Er O ExtC wi it) (hg : JG Z O g gm (some vs)) (hc : JB Z Er O tt mb) (he : JD Z Er O te m) : JF Z Er O (tLc wi g tt te vs) (xLc it gm mb m vs) := fun σ H p ρ S Q hE hS q =>
  hi σ H p ρ S _ hE hS ((q.bnd xE).mono fun ds S1 H1 p1 e1 s1 q1 Jt hJ => by
    obtain ⟨few, q2⟩ := q1.need
    have few : ds.length ≤ 100000 := of_decide_eq_true few
    have sz := sizeLine_eq
    intro D nD
    have hE1 := hE.ext e1 hS
    have noD : ∀ i ∈ O, σ[i]? ≠ some (some (.ref D)) ∨ ρ[i]? = none ∨ ρ[i]? = some none := fun i oi => by
      cases z : ρ[i]? with
      | none => exact .inr (.inl rfl)
      | some w =>
        cases w with
        | none => exact .inr (.inr rfl)
        | some d =>
          left
          obtain ⟨a, h1, h2, h3⟩ := hE1.own i d oi z
          rw [h1]
          intro c
          cases c
          exact s1.wt D (.inl h2) nD
    refine ⟨fun i n H' => n = ds.length - i ∧ i ≤ ds.length ∧ ∃ α' S' acc es, IsE Z O H' ⟨α', p1.ω ++ [D], p1.γ⟩ σ ρ ∧ IsS Z H' ⟨α', p1.ω ++ [D], p1.γ⟩ S' ∧ H' D = some (.lst acc) ∧ acc.length ≤ i ∧ IsDs Z H' ⟨α', p1.ω ++ [D], p1.γ⟩ acc es ∧ ExtE H1 p1 H' ⟨α', p1.ω, p1.γ⟩ ∧
        Post Z Er ExtE (compD gm mb m (wipeE ρ vs) (ds.drop i) S') H1 p1 (fun xs S'' H'' p'' => ∀ ws, H'' D = some (.lst ws) → ¬ p''.has D → IsS Z H'' ⟨p''.α, p''.ω ++ [D], p''.γ⟩ S'' → IsDs Z H'' ⟨p''.α, p''.ω ++ [D], p''.γ⟩ ws (es ++ xs) → Q (.ref D) H''), ?_, ?_⟩
    · obtain ⟨hE2, hS2⟩ := own_new (o := .lst []) hE1 s1 nD
      refine ⟨_, rfl, Nat.zero_le _, p1.α, S1, [], [], hE2, hS2, upd_same, Nat.le_refl _, isDs_nil.mpr rfl, ExtE.new nD, ?_⟩
      refine (q2.bnd xE).mono fun xs S'' H'' p'' e s q ws hD nh hs hws => ?_
      exact q.pure xE s D (back_of e1.t nD) (by rw [hD]; exact nofun) nh hs ⟨ws, hD, hws⟩
    · rintro i n H' ⟨rfl, le, α', S', acc, es, hE', hS', hD, la, hacc, ex, q'⟩
      have mD : D ∈ p1.ω ++ [D] := List.mem_append_right _ (List.mem_singleton.mpr rfl)
      have exC : ExtC H1 p1 H' ⟨α', p1.ω ++ [D], p1.γ⟩ := ExtC.plus ex nD
      by_cases lt : i < ds.length
      · have W := (hJ H' _ S' i exC hS').1 lt
        refine .inr ⟨W.1, fun H2 => ∃ α' S' acc es, IsE Z O H2 ⟨α', p1.ω ++ [D], p1.γ⟩ σ ρ ∧ IsS Z H2 ⟨α', p1.ω ++ [D], p1.γ⟩ S' ∧ H2 D = some (.lst acc) ∧ acc.length ≤ i + 1 ∧ IsDs Z H2 ⟨α', p1.ω ++ [D], p1.γ⟩ acc es ∧ ExtE H1 p1 H2 ⟨α', p1.ω, p1.γ⟩ ∧
            Post Z Er ExtE (compD gm mb m (wipeE ρ vs) (ds.drop (i + 1)) S') H1 p1 (fun xs S'' H'' p'' => ∀ ws, H'' D = some (.lst ws) → ¬ p''.has D → IsS Z H'' ⟨p''.α, p''.ω ++ [D], p''.γ⟩ S'' → IsDs Z H'' ⟨p''.α, p''.ω ++ [D], p''.γ⟩ ws (es ++ xs) → Q (.ref D) H''),
          fun H2 ⟨a, b, c, d, r⟩ => ⟨_, by omega, rfl, lt, a, b, c, d, r⟩, fun x Hx y => ?_⟩
        obtain ⟨sm, d, ed, hd⟩ := W.2 x Hx y
        have ed' : ds[i] = d := by
          rw [List.getElem?_eq_getElem lt] at ed
          exact Option.some.inj ed
        rw [drop_cons lt, ed'] at q'
        have eN : ∀ p, ExtE H' p Hx p := fun p => ExtE.same sm
        obtain ⟨ρ1, e, q3⟩ := q'.opt
        have hEx := hE'.ext (eN _) hS'
        refine hg x _ Hx _ _ d _ (hEx.wipe vs) hd ⟨ρ1, e, fun σ1 hE1' wi => ⟨(wi vs rfl).trans (wipe_wipe σ vs), ?_⟩⟩
        refine hc σ1 Hx _ ρ1 S' _ hE1' (hS'.ext sm) ((q3.bndK.up xE (ex.trans (eN _))).plus.mono fun b S2 H2 p2 e2 s2 q4 c hcb => ?_)
        subst hcb
        have ex2 : ExtE H1 p1 H2 ⟨p2.α, p1.ω, p1.γ⟩ := by
          have z := (ex.trans (eN _))
          refine z.trans ⟨e2.α, rfl, rfl, e2.k, e2.t⟩
        have ep2 : p2 = ⟨p2.α, p1.ω ++ [D], p1.γ⟩ := by
          have h1 := e2.ω
          have h2 := e2.γ
          cases p2
          cases h1
          cases h2
          rfl
        have nDα : D ∉ p2.α := (s2.dj D (by rw [e2.ω]; exact mD)).1
        have eH2 : ExtE H' ⟨α', p1.ω ++ [D], p1.γ⟩ H2 p2 := (eN _).trans e2
        have hE2 : IsE Z O H2 p2 σ ρ := hE'.ext eH2 hS'
        have hD2 : H2 D = some (.lst acc) := eH2.k D _ hD (hS'.dj D mD).1
        have hacc2 := hacc.ext eH2.s
        cases c with
        | true =>
          show te σ1 H2 _
          have q5 : Post Z Er ExtE ((m ρ1 >>= fun x => compD gm mb m (wipeE ρ vs) (ds.drop (i + 1)) >>= fun xs => pure (x :: xs)) S2) H1 p1 _ := q4
          have q6 := (q5.bndK.up xE ex2).plus (D := D)
          have e23 : (⟨p2.α, p1.ω ++ [D], p1.γ⟩ : Pl) = p2 := by rw [ep2]
          rw [e23] at q6
          refine he σ1 H2 p2 ρ1 S2 _ (hE1'.ext e2 (hS'.ext sm)) s2 (q6.mono fun x3 S3 H3 p3 e3 s3 q7 v hv => ?_)
          have ep3 : p3 = ⟨p3.α, p1.ω ++ [D], p1.γ⟩ := by
            have h1 := e3.ω
            have h2 := e3.γ
            rw [ep2] at h1 h2
            cases p3
            cases h1
            cases h2
            rfl
          have mD3 : D ∈ p3.ω := by rw [ep3]; exact mD
          have hD3 : H3 D = some (.lst acc) := e3.k D _ hD2 nDα
          have hacc3 := hacc2.ext e3.s
          have hE3 := hE2.ext e3 s2
          have noO : ∀ (i : Nat) (d : Dat), i ∈ O → ρ[i]? = some (some d) → σ[i]? ≠ some (some (.ref D)) := fun i d oi z => by
            rcases noD i oi with h | h | h
            · exact h
            · rw [h] at z; cases z
            · rw [h] at z; cases z
          have ePut : Ext H3 p3 (L2.upd H3 D (.lst (acc ++ [v]))) p3 := ext_put mD3
          refine ⟨acc, hD3, by omega, p3.α, S3, acc ++ [v], es ++ [x3], ?_, ?_, upd_same, by rw [List.length_append, List.length_singleton]; omega, ?_, ?_, ?_⟩
          · rw [← ep3]
            refine ⟨hE3.len, fun j d nj z => ?_, fun j d oj z => ?_, hE3.dj⟩
            · obtain ⟨v, h1, h2⟩ := hE3.get j d nj z
              exact ⟨v, h1, h2.ext ePut⟩
            · obtain ⟨a, h1, h2, h3⟩ := hE3.own j d oj z
              exact ⟨a, h1, h2, h3.ext ePut fun u zz => by rw [upd_ne fun c => noO j d oj z (by rw [← c]; exact h1)]; exact zz⟩
          · rw [← ep3]
            exact s3.put mD3
          · rw [← ep3]
            exact (hacc3.append (.one hv)).ext ePut
          · have z : ExtE H1 p1 H3 ⟨p3.α, p1.ω, p1.γ⟩ := ex2.trans ⟨e3.α, rfl, rfl, e3.k, e3.t⟩
            exact ⟨z.α, rfl, rfl, fun a o h n => by rw [upd_ne (ne_of_none h nD)]; exact z.k a o h n, fun a n => by rw [upd_ne fun c => n (by rw [c]; exact nD)]; exact z.t a n⟩
          · refine q7.bndK.mono fun xs S'' H'' p'' e s q ws hDw nh hs hws => ?_
            refine q H'' p'' e s ws hDw nh hs ?_
            rw [List.append_assoc] at hws
            exact hws
        | false =>
          have q5 : Post Z Er ExtE (compD gm mb m (wipeE ρ vs) (ds.drop (i + 1)) S2) H1 p1 _ := q4
          exact ⟨p2.α, S2, acc, es, by rw [← ep2]; exact hE2, by rw [← ep2]; exact s2, hD2, by omega, by rw [← ep2]; exact hacc2, ex2, q5⟩
      · have e : i = ds.length := by omega
        subst e
        rw [List.drop_length] at q'
        refine .inl ⟨(hJ H' _ S' _ exC hS').2 rfl, ?_⟩
        have hS3 := hS'.less (ω := p1.ω) fun a h => List.mem_append_left _ h
        have nh : ¬ (⟨α', p1.ω, p1.γ⟩ : Pl).has D := by
          rintro (h | h | h)
          · exact (hS'.dj D mD).1 h
          · exact s1.wt D (.inl h) nD
          · exact s1.wt D (.inr h) nD
        refine q' H' _ ex hS3 acc hD nh hS' ?_
        rw [List.append_nil]
        exact hacc)
theorem IsDs.unplus {H : Hp} {p : Pl} {a : Addr} {vs : List V} {ds : List Dat} (h : IsDs Z H ⟨p.α, p.ω ++ [a], p.γ⟩ vs ds) : IsDs Z H p vs ds :=
  have l2 : ∀ b, p.has b → (⟨p.α, p.ω ++ [a], p.γ⟩ : Pl).has b := fun b h => h.imp id fun h => h.imp (List.mem_append_left _) id
  IsDs.less (p := ⟨p.α, p.ω ++ [a], p.γ⟩) (p' := p) rfl l2 _ h
theorem IsTop.isD {H : Hp} {p : Pl} {a : Addr} {d : Dat} (nh : ¬ p.has a) (h : IsTop Z H ⟨p.α, p.ω ++ [a], p.γ⟩ a d) : IsD Z H p (.ref a) d := by
  cases d with
  | lst ds => obtain ⟨vs, e1, h1⟩ := h; exact isD_lst.mpr ⟨a, vs, rfl, ⟨e1, nh⟩, h1.unplus⟩
  | dic ks ds => obtain ⟨vs, e1, n, h1⟩ := h; exact isD_dic.mpr ⟨a, vs, rfl, ⟨e1, nh⟩, n, h1.unplus⟩
  | obj c fs ds => obtain ⟨dx, vs, e1, n, h1⟩ := h; exact isD_obj.mpr ⟨a, vs, rfl, ⟨⟨dx, e1⟩, nh⟩, n, h1.unplus⟩
  | _ => exact h.elim
theorem JF.d (h : JF Z Er O te m) : JD Z Er O te m := fun σ H p ρ S Q hE hS q => h σ H p ρ S Q hE hS (q.mono fun d S' H' p' _ _ k a _ _ nh _ t => k _ (t.isD nh))
theorem j_lc {wi : TI} {it : Env → M (List Dat)} {g : TG} {gm : Env → Dat → Option Env} {vs : List Nat} (hi : JI Z Er O ExtC wi it) (hg : JG Z O g gm (some vs)) (hc : JB Z Er O tt mb) (he : JD Z Er O te m) : JD Z Er O (tLc wi g tt te vs) (xLc it gm mb m vs) := (jf_lc hi hg hc he).d
theorem jf_lst (hl : JA Z Er O tl ml) : JF Z Er O (tLst tl) (xLst ml) := fun σ H p ρ S Q hE hS q =>
  hl σ H p ρ S _ hE hS ((q.bnd xE).mono fun ds S1 H1 p1 e1 s1 q1 vs hv => by
    obtain ⟨c, q2⟩ := q1.need
    refine ⟨few (by rw [hv.len]; exact of_decide_eq_true c), fun a na => q2.at_new s1 na a (back_of e1.t na) (by rw [upd_same]; exact nofun) (no_has s1 na) (own_new (hE.ext e1 hS) s1 na).2 ⟨vs, upd_same, ?_⟩⟩
    exact hv.ext (ExtC.plus (ExtE.new na) na).s)
def xDic0 (_ : Env) : M Dat := pure (.dic [] [])
theorem jf_dic0 : JF Z Er O tDNewK xDic0 := fun σ H p ρ S Q hE hS q a na => q.at_new hS na a na (by rw [upd_same]; exact nofun) (no_has hS na) (own_new hE hS na).2 ⟨[], upd_same, rfl, isDs_nil.mpr rfl⟩
end
end Zd

namespace Zd
open PySem PySem.Spec PyProof.Rows L2

/-! ### trees as the library's data -/
mutual
def toPy : Dat → Option PyData
  | .non => some .none
  | .bl b => some (.bool b)
  | .int i => some (.int i)
  | .str x => some (.str x)
  | .tup ds => (toPys ds).map .tuple
  | .lst ds => (toPys ds).map .list
  | _ => none
def toPys : List Dat → Option (List PyData)
  | [] => some []
  | d :: ds => (toPy d).bind fun x => (toPys ds).map (x :: ·)
end
section
variable {Z : Cz} {H : Hp} {p : Pl}
theorem toPys_cons {d : Dat} {ds : List Dat} {ys : List PyData} (h : toPys (d :: ds) = some ys) : ∃ x xs, toPy d = some x ∧ toPys ds = some xs ∧ ys = x :: xs := by
  rw [toPys] at h
  cases e : toPy d with
  | none => rw [e] at h; cases h
  | some x =>
    cases e2 : toPys ds with
    | none => rw [e, e2] at h; cases h
    | some xs => rw [e, e2] at h; cases h; exact ⟨x, xs, rfl, rfl, rfl⟩
mutual
theorem IsD.dp : ∀ (d : Dat) {v : V} {y : PyData}, IsD Z H p v d → toPy d = some y → Dp Z.K H v y
  | .non, _, _, h, e => by rw [toPy] at e; cases e; rw [isD_non.mp h]; exact .non
  | .bl b, _, _, h, e => by rw [toPy] at e; cases e; rw [isD_bl.mp h]; exact .bl b
  | .int i, _, _, h, e => by rw [toPy] at e; cases e; rw [isD_int.mp h]; exact .int i
  | .str x, _, _, h, e => by rw [toPy] at e; cases e; rw [isD_str.mp h]; exact .str x
  | .tup ds, _, y, h, e => by
    obtain ⟨a, vs, rfl, h1, h2⟩ := isD_tup.mp h
    rw [toPy] at e
    cases e2 : toPys ds with
    | none => rw [e2] at e; cases e
    | some ys => rw [e2] at e; cases e; exact .tup h1.sq (IsDs.dp ds h2 e2)
  | .lst ds, _, y, h, e => by
    obtain ⟨a, vs, rfl, h1, h2⟩ := isD_lst.mp h
    rw [toPy] at e
    cases e2 : toPys ds with
    | none => rw [e2] at e; cases e
    | some ys => rw [e2] at e; cases e; exact .lst h1.sq (IsDs.dp ds h2 e2)
  | .dic _ _, _, _, _, e => by rw [toPy] at e <;> first | cases e | nofun
  | .obj _ _ _, _, _, _, e => by rw [toPy] at e <;> first | cases e | nofun
  | .loc _, _, _, _, e => by rw [toPy] at e <;> first | cases e | nofun
  | .ty _, _, _, _, e => by rw [toPy] at e <;> first | cases e | nofun
  | .cls _, _, _, _, e => by rw [toPy] at e <;> first | cases e | nofun
  | .scr _, _, _, _, e => by rw [toPy] at e <;> first | cases e | nofun
theorem IsDs.dp : ∀ (ds : List Dat) {vs : List V} {ys : List PyData}, IsDs Z H p vs ds → toPys ds = some ys → DpAll Z.K H vs ys
  | [], _, _, h, e => by rw [toPys] at e; cases e; rw [isDs_nil.mp h]; exact .nil
  | d :: ds, _, _, h, e => by
    obtain ⟨v, r, rfl, h1, h2⟩ := isDs_cons.mp h
    obtain ⟨x, xs, e1, e2, rfl⟩ := toPys_cons e
    exact .cons (IsD.dp d h1 e1) (IsDs.dp ds h2 e2)
end
theorem IsW.dp {v : V} {d : Dat} {y : PyData} (h : IsW Z H p v d) (e : toPy d = some y) : Dp Z.K H v y := by
  cases d with
  | lst ds =>
    obtain ⟨a, vs, rfl, h1, h2⟩ := h
    rw [toPy] at e
    cases e2 : toPys ds with
    | none => rw [e2] at e; cases e
    | some ys => rw [e2] at e; cases e; exact .lst (SqL.of h1.1) (IsDs.dp ds h2 e2)
  | dic _ _ => rw [toPy] at e <;> first | cases e | nofun
  | obj _ _ _ => rw [toPy] at e <;> first | cases e | nofun
  | non => exact IsD.dp _ h e
  | bl b => exact IsD.dp _ h e
  | int i => exact IsD.dp _ h e
  | str x => exact IsD.dp _ h e
  | tup ds => exact IsD.dp _ h e
  | loc n => exact IsD.dp _ h e
  | ty n => exact IsD.dp _ h e
  | cls n => exact IsD.dp _ h e
  | scr n => exact IsD.dp _ h e
end

/-! ### operations -/
section
variable {Z : Cz} {Er : ErW} {O : List Nat}
/-- of two ints, of one -/
def dI (C : Int → Int → Bool) (G : Int → Int → Dat) (d e : Dat) : M Dat := match d, e with
  | .int i, .int j => M.need (C i j) >>= fun _ => pure (G i j)
  | _, _ => M.no
def dI0 (G : Int → Int → Dat) (d e : Dat) : M Dat := match d, e with
  | .int i, .int j => pure (G i j)
  | _, _ => M.no
theorem bad_no {α : Type} {S : List Dat} {H : Hp} {p : Pl} {X : XR} {C : α → List Dat → Hp → Pl → Prop} (h : Post Z Er X ((M.no : M α) S) H p C) : False := h
theorem jr_I0 {g : Int → Int → V} {G : Int → Int → Dat} (h : ∀ i j H p, IsD Z H p (g i j) (G i j)) : JR Z (IsD Z) (IsD Z) (IsD Z) (rI0 g) (dI0 G) := fun x y d e Er H p S Q hx hy s q => by
  unfold dI0 at q
  split at q
  · exact ⟨_, _, isD_int.mp hx, isD_int.mp hy, q.pure xE s _ (h _ _ H p)⟩
  · exact (bad_no q).elim
theorem jr_I {C : Int → Int → Prop} {B : Int → Int → Bool} {g : Int → Int → V} {G : Int → Int → Dat} (hB : ∀ i j, B i j = true → C i j) (h : ∀ i j H p, IsD Z H p (g i j) (G i j)) : JR Z (IsD Z) (IsD Z) (IsD Z) (rI C g) (dI B G) := fun x y d e Er H p S Q hx hy s q => by
  unfold dI at q
  split at q
  · obtain ⟨c, q⟩ := q.need
    exact ⟨_, _, isD_int.mp hx, isD_int.mp hy, hB _ _ c, q.pure xE s _ (h _ _ H p)⟩
  · exact (bad_no q).elim
def dAdd := dI0 fun i j => .int (i + j)
def dSub := dI0 fun i j => .int (i - j)
def bMul (i j : Int) : Bool := (decide (-(2 ^ 64) < i) && decide (i < 2 ^ 64)) || (decide (-(2 ^ 64) < j) && decide (j < 2 ^ 64))
def dMul := dI bMul fun i j => .int (i * j)
def dMod := dI (fun _ j => decide (0 < j)) fun i j => .int (i % j)
def dDiv := dI (fun _ j => decide (0 < j) && decide (j < 2 ^ 200)) fun i j => .int (i / j)
def bPow (i j : Int) : Bool := decide (0 ≤ j) && decide (j ≤ 1000000) && decide (i.natAbs < 2 ^ 64)
def dPow := dI bPow fun i j => .int (i ^ j.toNat)
def bPowZ (i j : Int) : Bool := decide (0 ≤ j) && decide ((Builtin.Int.intBits i : Int) * j ≤ 2 ^ 27)
def dPowZ := dI bPowZ fun i j => .int (i ^ j.toNat)
def dLt := dI0 fun i j => .bl (decide (i < j))
def dLe := dI0 fun i j => .bl (decide (i ≤ j))
def dGt := dI0 fun i j => .bl (decide (j < i))
def dGe := dI0 fun i j => .bl (decide (j ≤ i))
abbrev JRD (Z : Cz) (r : L2.R2) (f : Dat → Dat → M Dat) : Prop := JR Z (IsD Z) (IsD Z) (IsD Z) r f
theorem r_add : JRD Z (rI0 fun i j => .int (i + j)) dAdd := jr_I0 fun _ _ _ _ => isD_int.mpr rfl
theorem r_sub : JRD Z (rI0 fun i j => .int (i - j)) dSub := jr_I0 fun _ _ _ _ => isD_int.mpr rfl
theorem r_lt : JRD Z (rI0 fun i j => .bl (decide (i < j))) dLt := jr_I0 fun _ _ _ _ => isD_bl.mpr rfl
theorem r_le : JRD Z (rI0 fun i j => .bl (decide (i ≤ j))) dLe := jr_I0 fun _ _ _ _ => isD_bl.mpr rfl
theorem r_gt : JRD Z (rI0 fun i j => .bl (decide (j < i))) dGt := jr_I0 fun _ _ _ _ => isD_bl.mpr rfl
theorem r_ge : JRD Z (rI0 fun i j => .bl (decide (j ≤ i))) dGe := jr_I0 fun _ _ _ _ => isD_bl.mpr rfl
theorem r_mul : JRD Z (rI CMul fun i j => .int (i * j)) dMul := jr_I (fun i j h => by
  unfold bMul at h
  simp only [Bool.or_eq_true, Bool.and_eq_true, decide_eq_true_eq] at h
  exact h) fun _ _ _ _ => isD_int.mpr rfl
theorem r_mod : JRD Z (rI (fun _ j => 0 < j) fun i j => .int (i % j)) dMod := jr_I (fun i j h => of_decide_eq_true h) fun _ _ _ _ => isD_int.mpr rfl
theorem r_div : JRD Z (rI CDivW fun i j => .int (i / j)) dDiv := jr_I (fun i j h => by
  simp only [Bool.and_eq_true, decide_eq_true_eq] at h
  exact wide_div h.1 (b := 200) (by omega) (by decide) (by decide)) fun _ _ _ _ => isD_int.mpr rfl
theorem r_pow : JRD Z (rI CPow fun i j => .int (i ^ j.toNat)) dPow := jr_I (fun i j h => by
  unfold bPow at h
  simp only [Bool.and_eq_true, decide_eq_true_eq] at h
  exact ⟨h.1.1, h.1.2, h.2⟩) fun _ _ _ _ => isD_int.mpr rfl
theorem r_powZ : JRD Z (rI Zg.CPowZ fun i j => .int (i ^ j.toNat)) dPowZ := jr_I (fun i j h => by
  unfold bPowZ at h
  simp only [Bool.and_eq_true, decide_eq_true_eq] at h
  exact ⟨h.1, h.2⟩) fun _ _ _ _ => isD_int.mpr rfl
def dNeg (d : Dat) : M Dat := match d with
  | .int i => pure (.int (-i))
  | _ => M.no
theorem u_neg : JU Z (IsD Z) (IsD Z) (rU fun i => .int (-i)) dNeg := fun x d Er H p S Q hx s q => by
  unfold dNeg at q
  split at q
  · exact ⟨_, isD_int.mp hx, q.pure xE s _ (isD_int.mpr rfl)⟩
  · exact (bad_no q).elim
/-! == and != of flat values -/
def vS : Dat → Option V
  | .non => some .non
  | .bl b => some (.bl b)
  | .int i => some (.int i)
  | .str x => some (.str x)
  | _ => none
theorem vS_is {H : Hp} {p : Pl} {v x : V} {d : Dat} (h : IsD Z H p v d) (e : vS d = some x) : v = x := by
  cases d with
  | non => cases e; exact isD_non.mp h
  | bl b => cases e; exact isD_bl.mp h
  | int i => cases e; exact isD_int.mp h
  | str z => cases e; exact isD_str.mp h
  | _ => cases e
def dEq (d e : Dat) : M Dat := M.opt (vS d) >>= fun x => M.opt (vS e) >>= fun y => M.need (scal x y) >>= fun _ => pure (.bl (decide (x = y)))
def dNe (d e : Dat) : M Dat := M.opt (vS d) >>= fun x => M.opt (vS e) >>= fun y => M.need (scal x y) >>= fun _ => pure (.bl (!decide (x = y)))
theorem r_eq : JRD Z rEq dEq := fun x y d e Er H p S Q hx hy s q => by
  obtain ⟨v, e1, q⟩ := q.opt
  obtain ⟨w, e2, q⟩ := q.opt
  obtain ⟨c, q⟩ := q.need
  rw [vS_is hx e1, vS_is hy e2]
  exact ⟨c, q.pure xE s _ (isD_bl.mpr rfl)⟩
theorem r_ne : JRD Z rNe dNe := fun x y d e Er H p S Q hx hy s q => by
  obtain ⟨v, e1, q⟩ := q.opt
  obtain ⟨w, e2, q⟩ := q.opt
  obtain ⟨c, q⟩ := q.need
  rw [vS_is hx e1, vS_is hy e2]
  exact ⟨c, q.pure xE s _ (isD_bl.mpr rfl)⟩
def isNon : Dat → Bool
  | .non => true
  | _ => false
def dIsN (d e : Dat) : M Dat := match e with
  | .non => pure (.bl (isNon d))
  | _ => M.no
def dNotN (d e : Dat) : M Dat := match e with
  | .non => pure (.bl (!isNon d))
  | _ => M.no
theorem non_dec {H : Hp} {p : Pl} {v : V} {d : Dat} (h : IsD Z H p v d) : decide (v = V.non) = isNon d := by
  cases d with
  | non => rw [isD_non.mp h]; rfl
  | bl b => rw [isD_bl.mp h]; rfl
  | int i => rw [isD_int.mp h]; rfl
  | str z => rw [isD_str.mp h]; rfl
  | tup ds => obtain ⟨a, vs, rfl, _⟩ := isD_tup.mp h; rfl
  | lst ds => obtain ⟨a, vs, rfl, _⟩ := isD_lst.mp h; rfl
  | dic ks ds => obtain ⟨a, vs, rfl, _⟩ := isD_dic.mp h; rfl
  | obj c fs ds => obtain ⟨a, vs, rfl, _⟩ := isD_obj.mp h; rfl
  | loc n => obtain ⟨a, rfl, _⟩ := isD_loc.mp h; rfl
  | ty n => rw [isD_ty.mp h]; rfl
  | cls c => unfold IsD at h; rw [h]; rfl
  | scr ns => obtain ⟨a, rfl, _⟩ := isD_scr.mp h; rfl
theorem r_isN : JRD Z (fun x y H Q => y = .non ∧ Q (.bl (decide (x = .non))) H) dIsN := fun x y d e Er H p S Q hx hy s q => by
  unfold dIsN at q
  split at q
  · refine ⟨isD_non.mp hy, ?_⟩
    rw [non_dec hx]
    exact q.pure xE s _ (isD_bl.mpr rfl)
  · exact (bad_no q).elim
theorem r_notN : JRD Z (fun x y H Q => y = .non ∧ Q (.bl (!decide (x = .non))) H) dNotN := fun x y d e Er H p S Q hx hy s q => by
  unfold dNotN at q
  split at q
  · refine ⟨isD_non.mp hy, ?_⟩
    rw [non_dec hx]
    exact q.pure xE s _ (isD_bl.mpr rfl)
  · exact (bad_no q).elim
def dIsNotB (d e : Dat) : M Dat := match d, e with
  | .bl a, .bl b => pure (.bl (!decide (a = b)))
  | _, _ => M.no
theorem r_isNotB : JRD Z (fun x y H Q => ∃ a b, x = .bl a ∧ y = .bl b ∧ Q (.bl (!decide (a = b))) H) dIsNotB := fun x y d e Er H p S Q hx hy s q => by
  unfold dIsNotB at q
  split at q
  · exact ⟨_, _, isD_bl.mp hx, isD_bl.mp hy, q.pure xE s _ (isD_bl.mpr rfl)⟩
  · exact (bad_no q).elim
/-! data of any depth: ==, <, in -/
def shp (y : PyData) : Bool := SeqAt.shaped y
def dEqD (b : Bool) (d e : Dat) : M Dat := M.opt (toPy d) >>= fun x => M.opt (toPy e) >>= fun y => M.need (shp x && shp y) >>= fun _ => pure (.bl (b != PyData.eqv x y))
theorem r_eqD : JR Z (IsW Z) (IsW Z) (IsD Z) (rEqD Z.K) (dEqD false) := fun x y d e Er H p S Q hx hy s q => by
  obtain ⟨v, e1, q⟩ := q.opt
  obtain ⟨w, e2, q⟩ := q.opt
  obtain ⟨c, q⟩ := q.need
  rw [Bool.and_eq_true] at c
  exact ⟨v, w, hx.dp e1, hy.dp e2, c.1, c.2, q.pure xE s _ (isD_bl.mpr (by simp))⟩
theorem r_neD : JR Z (IsW Z) (IsW Z) (IsD Z) (rNeD Z.K) (dEqD true) := fun x y d e Er H p S Q hx hy s q => by
  obtain ⟨v, e1, q⟩ := q.opt
  obtain ⟨w, e2, q⟩ := q.opt
  obtain ⟨c, q⟩ := q.need
  rw [Bool.and_eq_true] at c
  exact ⟨v, w, hx.dp e1, hy.dp e2, c.1, c.2, q.pure xE s _ (isD_bl.mpr (by simp))⟩
def rLtD (K : PySem.W.Frag) : L2.R2 := fun x y H Q => ∃ d e, Dp K H x d ∧ Dp K H y e ∧ PySem.W.alike d e = true ∧ d ≠ .none ∧ d.depth ≤ 64 ∧ Q (.bl (PySem.W.dataLt d e)) H
theorem op_ltD {X : Cx} {K : PySem.W.Frag} (hu : X.A.units + 64 < cLine) (h : X.K = K := by rfl) : OpR X (compareOp .Lt) (rLtD K) := by
  subst h
  intro pins s σ H x y v u Q I rx ry h
  obtain ⟨d, e, hd, he, al, nn, sd, q⟩ := h
  obtain ⟨as, r1⟩ := Dp.reads I d x v hd rx
  obtain ⟨bs, r2⟩ := Dp.reads I e y u he ry
  refine PySem.W.lt_data r1 r2 al nn ?_ ⟨.bl _, H, I, rfl, q⟩
  have h2 : min d.depth e.depth ≤ d.depth := Nat.min_le_left _ _
  omega
def isNone : PyData → Bool
  | .none => true
  | _ => false
def dLtD (d e : Dat) : M Dat := M.opt (toPy d) >>= fun x => M.opt (toPy e) >>= fun y => M.need (PySem.W.alike x y && !isNone x && decide (x.depth ≤ 64)) >>= fun _ => pure (.bl (PySem.W.dataLt x y))
theorem r_ltD : JRD Z (rLtD Z.K) dLtD := fun x y d e Er H p S Q hx hy s q => by
  obtain ⟨v, e1, q⟩ := q.opt
  obtain ⟨w, e2, q⟩ := q.opt
  obtain ⟨c, q⟩ := q.need
  simp only [Bool.and_eq_true, decide_eq_true_eq, Bool.not_eq_true'] at c
  refine ⟨v, w, hx.dp _ e1, hy.dp _ e2, c.1.1, fun z => ?_, c.2, q.pure xE s _ (isD_bl.mpr rfl)⟩
  rw [z] at c
  exact absurd c.1.2 (by decide)
def rInDD (K : PySem.W.Frag) (neg : Bool) : L2.R2 := fun x y H Q => ∃ d ds, Dp K H x d ∧ (Dp K H y (.tuple ds) ∨ Dp K H y (.list ds)) ∧ SeqAt.shaped d = true ∧ SeqAt.shaped (.tuple ds) = true ∧ Q (.bl (neg != ds.any fun z => PyData.eqv z d)) H
theorem op_inDD {X : Cx} {K : PySem.W.Frag} (hu : X.A.units + 70 < cLine) (h : X.K = K := by rfl) : OpR X (compareOp .In) (rInDD K false) := by
  subst h
  intro pins s σ H x y v u Q I rx ry h
  obtain ⟨d, ds, hd, he, sd, se, q⟩ := h
  obtain ⟨as, r1⟩ := Dp.reads I d x v hd rx
  rw [Bool.false_bne] at q
  rcases he with he | he
  · obtain ⟨bs, r2⟩ := Dp.reads I (.tuple ds) y u he ry
    exact SeqAt.in_tuple_reads r2 r1 (SeqAt.canLay_of_shaped se) (SeqAt.canLay_of_shaped sd) (room_in_shaped sd (by omega)) ⟨.bl _, H, I, rfl, q⟩
  · obtain ⟨bs, r2⟩ := Dp.reads I (.list ds) y u he ry
    exact SeqAt.in_list_reads r2 r1 (SeqAt.canLay_of_shaped se) (SeqAt.canLay_of_shaped sd) (room_in_shaped sd (by omega)) ⟨.bl _, H, I, rfl, q⟩
theorem op_notInDD {X : Cx} {K : PySem.W.Frag} (hu : X.A.units + 70 < cLine) (h : X.K = K := by rfl) : OpR X (compareOp .NotIn) (rInDD K true) := by
  subst h
  intro pins s σ H x y v u Q I rx ry h
  obtain ⟨d, ds, hd, he, sd, se, q⟩ := h
  obtain ⟨as, r1⟩ := Dp.reads I d x v hd rx
  rw [Bool.true_bne] at q
  rcases he with he | he
  · obtain ⟨bs, r2⟩ := Dp.reads I (.tuple ds) y u he ry
    exact SeqAt.notIn_tuple_reads r2 r1 (SeqAt.canLay_of_shaped se) (SeqAt.canLay_of_shaped sd) (room_in_shaped sd (by omega)) ⟨.bl _, H, I, rfl, q⟩
  · obtain ⟨bs, r2⟩ := Dp.reads I (.list ds) y u he ry
    exact SeqAt.notIn_list_reads r2 r1 (SeqAt.canLay_of_shaped se) (SeqAt.canLay_of_shaped sd) (room_in_shaped sd (by omega)) ⟨.bl _, H, I, rfl, q⟩
def itemsOf : Dat → Option (List Dat)
  | .tup ds => some ds
  | .lst ds => some ds
  | _ => none
def dIn (neg : Bool) (d e : Dat) : M Dat := M.opt (toPy d) >>= fun x => M.opt ((itemsOf e).bind toPys) >>= fun ys => M.need (shp x && shp (.tuple ys)) >>= fun _ => pure (.bl (neg != ys.any fun z => PyData.eqv z x))
theorem r_in {neg : Bool} : JR Z (IsD Z) (IsW Z) (IsD Z) (rInDD Z.K neg) (dIn neg) := fun x y d e Er H p S Q hx hy s q => by
  obtain ⟨v, e1, q⟩ := q.opt
  obtain ⟨ws, e2, q⟩ := q.opt
  obtain ⟨c, q⟩ := q.need
  rw [Bool.and_eq_true] at c
  refine ⟨v, ws, hx.dp _ e1, ?_, c.1, c.2, q.pure xE s _ (isD_bl.mpr rfl)⟩
  cases e with
  | tup ds =>
    left
    refine hy.dp ?_
    rw [toPy]
    have e2 : toPys ds = some ws := e2
    rw [e2]; rfl
  | lst ds =>
    right
    refine hy.dp ?_
    rw [toPy]
    have e2 : toPys ds = some ws := e2
    rw [e2]; rfl
  | _ => cases e2
/-! tuples, lists: +, *, [], [:] -/
def dCatT (d e : Dat) : M Dat := match d, e with
  | .tup xs, .tup ys => M.need (decide (xs.length + ys.length ≤ 100000)) >>= fun _ => pure (.tup (xs ++ ys))
  | _, _ => M.no
theorem lim {n : Nat} (h : n ≤ 100000) : n ≤ sizeLine := by have := sizeLine_eq; omega
theorem r_catT : JRD Z (rCatA Z.K) dCatT := fun x y d e Er H p S Q hx hy s q => by
  unfold dCatT at q
  split at q
  · rename_i xs ys
    obtain ⟨c, q⟩ := q.need
    have c := of_decide_eq_true c
    obtain ⟨a, vs, rfl, h1, h2⟩ := isD_tup.mp hx
    obtain ⟨b, ws, rfl, g1, g2⟩ := isD_tup.mp hy
    refine ⟨a, b, vs, ws, rfl, rfl, h1.sq, g1.sq, lim (by rw [h2.len, g2.len]; exact c), fun z => ?_, fun z z2 => ?_, fun _ _ t nt => ?_⟩
    · have e : xs = [] := List.length_eq_zero_iff.mp (by rw [← h2.len, z]; rfl)
      subst e
      exact q.pure xE s _ hy
    · have e : ys = [] := List.length_eq_zero_iff.mp (by rw [← g2.len, z2]; rfl)
      subst e
      have q := q.pure xE s
      rw [List.append_nil] at q
      exact q _ hx
    · exact q.at_new s nt _ (new_tup s nt (h2.append g2))
  · exact (bad_no q).elim
def dCatL (d e : Dat) : M Dat := match d, e with
  | .lst xs, .lst ys => M.need (decide (xs.length + ys.length ≤ 100000)) >>= fun _ => pure (.lst (xs ++ ys))
  | _, _ => M.no
theorem r_catL : JR Z (IsW Z) (IsW Z) (IsD Z) rCat dCatL := fun x y d e Er H p S Q hx hy s q => by
  unfold dCatL at q
  split at q
  · obtain ⟨c, q⟩ := q.need
    have c := of_decide_eq_true c
    obtain ⟨a, vs, rfl, h1, h2⟩ := hx
    obtain ⟨b, ws, rfl, g1, g2⟩ := hy
    exact ⟨a, b, vs, ws, rfl, rfl, h1.1, g1.1, lim (by rw [h2.len, g2.len]; exact c), fun t nt => q.at_new s nt _ (new_lst s nt (h2.append g2))⟩
  · exact (bad_no q).elim
theorem IsDs.rep {H : Hp} {p : Pl} {vs : List V} {ds : List Dat} (h : IsDs Z H p vs ds) : ∀ n : Nat, IsDs Z H p (List.replicate n vs).flatten (List.replicate n ds).flatten
  | 0 => isDs_nil.mpr rfl
  | n + 1 => by
    rw [List.replicate_succ, List.replicate_succ, List.flatten_cons, List.flatten_cons]
    exact h.append (IsDs.rep h n)
def dRepL (d e : Dat) : M Dat := match d, e with
  | .lst xs, .int k => M.need (decide (-(2 ^ 63) ≤ k) && decide (k < 2 ^ 63) && decide (xs.length * k.toNat ≤ 100000)) >>= fun _ => pure (.lst (List.replicate k.toNat xs).flatten)
  | _, _ => M.no
theorem r_repL : JRD Z rRep dRepL := fun x y d e Er H p S Q hx hy s q => by
  unfold dRepL at q
  split at q
  · obtain ⟨c, q⟩ := q.need
    simp only [Bool.and_eq_true, decide_eq_true_eq] at c
    obtain ⟨a, vs, rfl, h1, h2⟩ := isD_lst.mp hx
    exact ⟨a, _, vs, rfl, isD_int.mp hy, h1.1, c.1.1, c.1.2, lim (by rw [h2.len]; exact c.2), fun t nt => q.at_new s nt _ (new_lst s nt (h2.rep _))⟩
  · exact (bad_no q).elim
def dAddS (d e : Dat) : M Dat := match d, e with
  | .str x, .str y => M.need (decide (x.length + y.length ≤ 100000)) >>= fun _ => pure (.str (x ++ y))
  | _, _ => M.no
theorem r_addS : JRD Z (fun x y H Q => ∃ i j, x = .str i ∧ y = .str j ∧ i.length + j.length ≤ sizeLine ∧ Q (.str (i ++ j)) H) dAddS := fun x y d e Er H p S Q hx hy s q => by
  unfold dAddS at q
  split at q
  · obtain ⟨c, q⟩ := q.need
    exact ⟨_, _, isD_str.mp hx, isD_str.mp hy, lim (of_decide_eq_true c), q.pure xE s _ (isD_str.mpr rfl)⟩
  · exact (bad_no q).elim
def dLtS (d e : Dat) : M Dat := match d, e with
  | .str x, .str y => pure (.bl (decide (x.cps.toList < y.cps.toList)))
  | _, _ => M.no
theorem r_ltS : JRD Z (fun x y H Q => ∃ i j, x = .str i ∧ y = .str j ∧ Q (.bl (decide (i.cps.toList < j.cps.toList))) H) dLtS := fun x y d e Er H p S Q hx hy s q => by
  unfold dLtS at q
  split at q
  · exact ⟨_, _, isD_str.mp hx, isD_str.mp hy, q.pure xE s _ (isD_bl.mpr rfl)⟩
  · exact (bad_no q).elim
theorem atI_rel {H : Hp} {p : Pl} {vs : List V} {ds : List Dat} {i : Int} {d : Dat} (h : IsDs Z H p vs ds) (e : atI ds i = some d) : ∃ v, atI vs i = some v ∧ IsD Z H p v d := by
  unfold atI at e ⊢
  rw [h.len]
  cases q : ixN ds.length i with
  | none => rw [q] at e; cases e
  | some j =>
    rw [q] at e
    exact h.get e
def dIx (d e : Dat) : M Dat := match d, e with
  | .lst xs, .int i => M.opt (atI xs i)
  | .tup xs, .int i => M.opt (atI xs i)
  | _, _ => M.no
def dIxL (d e : Dat) : M Dat := match d, e with
  | .lst xs, .int i => M.opt (atI xs i)
  | _, _ => M.no
def dIxT (d e : Dat) : M Dat := match d, e with
  | .tup xs, .int i => M.opt (atI xs i)
  | _, _ => M.no
theorem r_ixT : JRD Z (rIxT Z.K) dIxT := fun x y d e Er H p S Q hx hy s q => by
  unfold dIxT at q
  split at q
  · obtain ⟨c, e, q⟩ := opt_pure xE q s
    obtain ⟨a, vs, rfl, h1, h2⟩ := isD_tup.mp hx
    obtain ⟨v, e1, e2⟩ := atI_rel h2 e
    exact ⟨a, vs, _, v, rfl, isD_int.mp hy, h1.sq, e1, q v e2⟩
  · exact (bad_no q).elim
theorem r_ixL : JR Z (IsW Z) (IsD Z) (IsD Z) (rIxL Z.K) dIxL := fun x y d e Er H p S Q hx hy s q => by
  unfold dIxL at q
  split at q
  · obtain ⟨c, e, q⟩ := opt_pure xE q s
    obtain ⟨a, vs, rfl, h1, h2⟩ := hx
    obtain ⟨v, e1, e2⟩ := atI_rel h2 e
    exact ⟨a, vs, _, v, rfl, isD_int.mp hy, SqL.of h1.1, e1, q v e2⟩
  · exact (bad_no q).elim
/-- a sign of the script -/
def dIxSc (d e : Dat) : M Dat := match d, e with
  | .scr xs, .int i => M.opt (atI xs i) >>= fun n => pure (.int n)
  | _, _ => M.no
theorem r_ixSc : JRD Z (rIxL Z.K) dIxSc := fun x y d e Er H p S Q hx hy s q => by
  unfold dIxSc at q
  split at q
  · rename_i xs i
    obtain ⟨n, e, q⟩ := q.opt
    obtain ⟨a, rfl, h1⟩ := isD_scr.mp hx
    have e1 : atI (xs.map V.int) i = some (.int n) := by
      unfold atI at e ⊢
      rw [List.length_map]
      cases z : ixN xs.length i with
      | none => rw [z] at e; cases e
      | some j =>
        rw [z] at e
        have e : xs[j]? = some n := e
        show (xs.map V.int)[j]? = some (.int n)
        rw [List.getElem?_map, e]
        rfl
    exact ⟨a, _, _, _, rfl, isD_int.mp hy, h1.elim (fun z => .inl z.1) fun z => z H, e1, q.pure xE s _ (isD_int.mpr rfl)⟩
  · exact (bad_no q).elim
/-- an item of a shared list -/
def dIxLo (d e : Dat) : M Dat := match d, e with
  | .loc n, .int i => fun S => match S[n]? with
    | some (.lst xs) => M.opt (atI xs i) S
    | _ => .bad
  | _, _ => M.no
theorem r_ixLo : JRD Z (rIxL Z.K) dIxLo := fun x y d e Er H p S Q hx hy s q => by
  cases d with
  | loc n =>
    cases e with
    | int i =>
      obtain ⟨a, rfl, ha⟩ := isD_loc.mp hx
      have q : Post Z Er ExtE (match S[n]? with | some (.lst xs) => M.opt (atI xs i) S | _ => .bad) H p _ := q
      split at q
      · rename_i xs ex
        obtain ⟨c, e, q⟩ := opt_pure xE q s
        obtain ⟨vs, h1, h2⟩ := s.at_ n a _ ha ex
        obtain ⟨v, e1, e2⟩ := atI_rel h2 e
        exact ⟨a, vs, _, v, rfl, isD_int.mp hy, SqL.of h1, e1, q v e2⟩
      · exact q.elim
    | _ => exact (bad_no (S := S) q).elim
  | _ => exact (bad_no (S := S) q).elim
def cutD (xs : List Dat) (lo hi : Option Int) : List Dat := (xs.drop (HT.sIx xs.length 0 lo)).take (HT.sIx xs.length xs.length hi - HT.sIx xs.length 0 lo)
theorem IsDs.cut {H : Hp} {p : Pl} {vs : List V} {ds : List Dat} (h : IsDs Z H p vs ds) (lo hi : Option Int) : IsDs Z H p (cutV vs lo hi) (cutD ds lo hi) := by
  unfold cutV cutD
  rw [h.len]
  exact (h.drop _).take _
def jSl (f : Dat → Option Int → Option Int → M Dat) (a : Env → M Dat) (l u : Env → M (Option Int)) (ρ : Env) : M Dat := a ρ >>= fun x => l ρ >>= fun lo => u ρ >>= fun hi => f x lo hi
def dCutT (d : Dat) (lo hi : Option Int) : M Dat := match d with
  | .tup xs => pure (.tup (cutD xs lo hi))
  | _ => M.no
def dCutL (d : Dat) (lo hi : Option Int) : M Dat := match d with
  | .lst xs => pure (.lst (cutD xs lo hi))
  | _ => M.no
def oNone (_ : Env) : M (Option Int) := pure none
def oSome (a : Env → M Dat) (ρ : Env) : M (Option Int) := a ρ >>= fun x => match x with
  | .int i => pure (some i)
  | _ => M.no
variable {te ta tb : TE} {tl th : TO} {m m1 m2 : Env → M Dat} {ml mh : Env → M (Option Int)}
theorem jo_none : JO Z Er O tNoPart oNone := fun σ H p ρ S Q hE hS q => q.pure xE hS none rfl
theorem jo_some (h : JD Z Er O te m) : JO Z Er O (tPart te) (oSome m) := fun σ H p ρ S Q hE hS q =>
  h σ H p ρ S _ hE hS ((q.bnd xE).mono fun d S1 H1 p1 e1 s1 q1 v hv => by
    cases d with
    | int i => exact ⟨i, isD_int.mp hv, q1.pure xE s1 _ rfl⟩
    | _ => exact (bad_no q1).elim)
theorem j_slT (h : JD Z Er O te m) (hl : JO Z Er O tl ml) (hh : JO Z Er O th mh) : JD Z Er O (tSl (rSlA Z.K) te tl th) (jSl dCutT m ml mh) := fun σ H p ρ S Q hE hS q =>
  h σ H p ρ S _ hE hS ((q.bnd xE).mono fun d S1 H1 p1 e1 s1 q1 v hv => hl σ H1 p1 ρ S1 _ (hE.ext e1 hS) s1 ((q1.bnd xE).mono fun lo S2 H2 p2 e2 s2 q2 lo' elo => hh σ H2 p2 ρ S2 _ ((hE.ext e1 hS).ext e2 s1) s2 ((q2.bnd xE).mono fun hi S3 H3 p3 e3 s3 q3 hi' ehi => by
    subst elo ehi
    have hv3 := hv.ext (e2.trans e3).s
    unfold dCutT at q3
    split at q3
    · rename_i xs
      obtain ⟨a, vs, rfl, h1, h2⟩ := isD_tup.mp hv3
      refine ⟨a, vs, rfl, h1.sq, fun wh => ?_, fun _ t nt => q3.at_new s3 nt _ (new_tup s3 nt (h2.cut _ _))⟩
      have e : cutD xs lo' hi' = xs := by
        rw [h2.len] at wh
        unfold cutD
        rw [wh.1, wh.2, List.drop_zero, Nat.sub_zero, List.take_length]
      have q3 := q3.pure xE s3
      rw [e] at q3
      exact q3 _ hv3
    · exact (bad_no q3).elim)))
theorem j_slL (h : JW Z Er O te m) (hl : JO Z Er O tl ml) (hh : JO Z Er O th mh) : JD Z Er O (tSl (rSlL Z.K) te tl th) (jSl dCutL m ml mh) := fun σ H p ρ S Q hE hS q =>
  h σ H p ρ S _ hE hS ((q.bnd xE).mono fun d S1 H1 p1 e1 s1 q1 v hv => hl σ H1 p1 ρ S1 _ (hE.ext e1 hS) s1 ((q1.bnd xE).mono fun lo S2 H2 p2 e2 s2 q2 lo' elo => hh σ H2 p2 ρ S2 _ ((hE.ext e1 hS).ext e2 s1) s2 ((q2.bnd xE).mono fun hi S3 H3 p3 e3 s3 q3 hi' ehi => by
    subst elo ehi
    have hv3 := upW.up (e2.trans e3) s1 hv
    unfold dCutL at q3
    split at q3
    · rename_i xs
      obtain ⟨a, vs, rfl, h1, h2⟩ := hv3
      exact ⟨a, vs, rfl, SqL.of h1.1, fun t nt => q3.at_new s3 nt _ (new_lst s3 nt (h2.cut _ _))⟩
    · exact (bad_no q3).elim)))
/-! t[::-1] -/

/-! ### built-in functions -/
def dLen (ds : List Dat) : M Dat := match ds with
  | [.lst xs] => pure (.int xs.length)
  | [.tup xs] => pure (.int xs.length)
  | [.scr xs] => pure (.int xs.length)
  | _ => M.no
abbrev JCW (Z : Cz) (r : List V → Hp → VK → Prop) (f : List Dat → M Dat) : Prop := JC Z (IsWs Z) (IsD Z) r f
theorem isWs_one {H : Hp} {p : Pl} {vs : List V} {d : Dat} (h : IsWs Z H p vs [d]) : ∃ v, vs = [v] ∧ IsW Z H p v d := by
  obtain ⟨v, r, rfl, h1, h2⟩ := h
  rw [isDs_nil.mp h2]
  exact ⟨v, rfl, h1⟩
theorem isDs_two {H : Hp} {p : Pl} {vs : List V} {d e : Dat} (h : IsDs Z H p vs [d, e]) : ∃ v w, vs = [v, w] ∧ IsD Z H p v d ∧ IsD Z H p w e := by
  obtain ⟨v, r, rfl, h1, h2⟩ := isDs_cons.mp h
  obtain ⟨w, r, rfl, h3, h4⟩ := isDs_cons.mp h2
  rw [isDs_nil.mp h4]
  exact ⟨v, w, rfl, h1, h3⟩
theorem isDs_one {H : Hp} {p : Pl} {vs : List V} {d : Dat} (h : IsDs Z H p vs [d]) : ∃ v, vs = [v] ∧ IsD Z H p v d := by
  obtain ⟨v, r, rfl, h1, h2⟩ := isDs_cons.mp h
  rw [isDs_nil.mp h2]
  exact ⟨v, rfl, h1⟩
theorem c_len : JCW Z (fun xs H Q => ∃ p ys, xs = [.ref p] ∧ (SqL Z.K H p ys ∨ SqT Z.K H p ys) ∧ Q (.int ys.length) H) dLen := fun x d Er H p S Q hx s q => by
  unfold dLen at q
  split at q
  · obtain ⟨v, rfl, hv⟩ := isWs_one hx
    obtain ⟨a, vs, rfl, h1, h2⟩ := hv
    refine ⟨a, vs, rfl, .inl (SqL.of h1.1), ?_⟩
    rw [h2.len]
    exact q.pure xE s _ (isD_int.mpr rfl)
  · obtain ⟨v, rfl, hv⟩ := isWs_one hx
    obtain ⟨a, vs, rfl, h1, h2⟩ := isD_tup.mp hv
    refine ⟨a, vs, rfl, .inr h1.sq, ?_⟩
    rw [h2.len]
    exact q.pure xE s _ (isD_int.mpr rfl)
  · obtain ⟨v, rfl, hv⟩ := isWs_one hx
    obtain ⟨a, rfl, h1⟩ := isD_scr.mp hv
    refine ⟨a, _, rfl, .inl (h1.elim (fun z => .inl z.1) fun z => z H), ?_⟩
    rw [List.length_map]
    exact q.pure xE s _ (isD_int.mpr rfl)
  · exact (bad_no q).elim
def dLenS (ds : List Dat) : M Dat := match ds with
  | [.str x] => M.need (decide (x.length ≤ 100000)) >>= fun _ => pure (.int x.length)
  | _ => M.no
theorem c_lenS : JC Z (IsDs Z) (IsD Z) (fun xs H Q => ∃ z, xs = [.str z] ∧ z.length ≤ sizeLine ∧ Q (.int z.length) H) dLenS := fun x d Er H p S Q hx s q => by
  unfold dLenS at q
  split at q
  · obtain ⟨c, q⟩ := q.need
    obtain ⟨v, rfl, hv⟩ := isDs_one hx
    exact ⟨_, by rw [isD_str.mp hv], lim (of_decide_eq_true c), q.pure xE s _ (isD_int.mpr rfl)⟩
  · exact (bad_no q).elim
def dMax (ds : List Dat) : M Dat := match ds with
  | [.int i, .int j] => pure (.int (if j > i then j else i))
  | _ => M.no
def dMin (ds : List Dat) : M Dat := match ds with
  | [.int i, .int j] => pure (.int (if j < i then j else i))
  | _ => M.no
def dAbs (ds : List Dat) : M Dat := match ds with
  | [.int i] => pure (.int (if i < 0 then -i else i))
  | _ => M.no
def dInt (ds : List Dat) : M Dat := match ds with
  | [.int i] => pure (.int i)
  | [.bl b] => pure (.int (if b then 1 else 0))
  | _ => M.no
theorem c_max : JC Z (IsDs Z) (IsD Z) (fun xs H Q => ∃ i j, xs = [.int i, .int j] ∧ Q (.int (if j > i then j else i)) H) dMax := fun x d Er H p S Q hx s q => by
  unfold dMax at q
  split at q
  · obtain ⟨v, w, rfl, h1, h2⟩ := isDs_two hx
    exact ⟨_, _, by rw [isD_int.mp h1, isD_int.mp h2], q.pure xE s _ (isD_int.mpr rfl)⟩
  · exact (bad_no q).elim
theorem c_min : JC Z (IsDs Z) (IsD Z) (fun xs H Q => ∃ i j, xs = [.int i, .int j] ∧ Q (.int (if j < i then j else i)) H) dMin := fun x d Er H p S Q hx s q => by
  unfold dMin at q
  split at q
  · obtain ⟨v, w, rfl, h1, h2⟩ := isDs_two hx
    exact ⟨_, _, by rw [isD_int.mp h1, isD_int.mp h2], q.pure xE s _ (isD_int.mpr rfl)⟩
  · exact (bad_no q).elim
theorem c_abs : JC Z (IsDs Z) (IsD Z) (fun xs H Q => ∃ i, xs = [.int i] ∧ Q (.int (if i < 0 then -i else i)) H) dAbs := fun x d Er H p S Q hx s q => by
  unfold dAbs at q
  split at q
  · obtain ⟨v, rfl, h1⟩ := isDs_one hx
    exact ⟨_, by rw [isD_int.mp h1], q.pure xE s _ (isD_int.mpr rfl)⟩
  · exact (bad_no q).elim
theorem c_int : JC Z (IsDs Z) (IsD Z) (fun xs H Q => (∃ i, xs = [.int i] ∧ Q (.int i) H) ∨ ∃ k, xs = [.bl k] ∧ Q (.int (if k then 1 else 0)) H) dInt := fun x d Er H p S Q hx s q => by
  unfold dInt at q
  split at q
  · obtain ⟨v, rfl, h1⟩ := isDs_one hx
    exact .inl ⟨_, by rw [isD_int.mp h1], q.pure xE s _ (isD_int.mpr rfl)⟩
  · obtain ⟨v, rfl, h1⟩ := isDs_one hx
    exact .inr ⟨_, by rw [isD_bl.mp h1], q.pure xE s _ (isD_int.mpr rfl)⟩
  · exact (bad_no q).elim
/-- all, any of a list of truths -/
def blsOf : List Dat → Option (List Bool)
  | [] => some []
  | .bl b :: r => (blsOf r).map (b :: ·)
  | _ => none
theorem blsOf_is {H : Hp} {p : Pl} : ∀ {ds : List Dat} {vs : List V} {bs : List Bool}, IsDs Z H p vs ds → blsOf ds = some bs → vs = bs.map V.bl
  | [], _, _, h, e => by cases e; exact isDs_nil.mp h
  | d :: ds, _, bs, h, e => by
    obtain ⟨v, r, rfl, h1, h2⟩ := isDs_cons.mp h
    cases d with
    | bl b =>
      unfold blsOf at e
      cases z : blsOf ds with
      | none => rw [z] at e; cases e
      | some cs =>
        rw [z] at e
        cases e
        rw [isD_bl.mp h1, blsOf_is h2 z]
        rfl
    | _ => cases e
def dAll (ds : List Dat) : M Dat := match ds with
  | [.lst xs] => M.opt (blsOf xs) >>= fun bs => pure (.bl (bs.all id))
  | _ => M.no
def dAny (ds : List Dat) : M Dat := match ds with
  | [.lst xs] => M.opt (blsOf xs) >>= fun bs => pure (.bl (bs.any id))
  | _ => M.no
theorem c_all : JCW Z (rAll Z.K) dAll := fun x d Er H p S Q hx s q => by
  unfold dAll at q
  split at q
  · obtain ⟨bs, e, q⟩ := q.opt
    obtain ⟨v, rfl, hv⟩ := isWs_one hx
    obtain ⟨a, vs, rfl, h1, h2⟩ := hv
    exact ⟨a, bs, rfl, by rw [← blsOf_is h2 e]; exact SqL.of h1.1, q.pure xE s _ (isD_bl.mpr rfl)⟩
  · exact (bad_no q).elim
theorem c_any : JCW Z (rAny Z.K) dAny := fun x d Er H p S Q hx s q => by
  unfold dAny at q
  split at q
  · obtain ⟨bs, e, q⟩ := q.opt
    obtain ⟨v, rfl, hv⟩ := isWs_one hx
    obtain ⟨a, vs, rfl, h1, h2⟩ := hv
    exact ⟨a, bs, rfl, by rw [← blsOf_is h2 e]; exact SqL.of h1.1, q.pure xE s _ (isD_bl.mpr rfl)⟩
  · exact (bad_no q).elim
def dTuple (ds : List Dat) : M Dat := match ds with
  | [.lst xs] => pure (.tup xs)
  | [.tup xs] => pure (.tup xs)
  | _ => M.no
theorem c_tuple : JCW Z (fun xs H Q => ∃ p ys, xs = [.ref p] ∧ ((SqL Z.K H p ys ∧ ∀ l, H l = none → Q (.ref l) (L2.upd H l (.tup ys))) ∨ (SqT Z.K H p ys ∧ Q (.ref p) H))) dTuple := fun x d Er H p S Q hx s q => by
  unfold dTuple at q
  split at q
  · obtain ⟨v, rfl, hv⟩ := isWs_one hx
    obtain ⟨a, vs, rfl, h1, h2⟩ := hv
    exact ⟨a, vs, rfl, .inl ⟨SqL.of h1.1, fun t nt => q.at_new s nt _ (new_tup s nt h2)⟩⟩
  · obtain ⟨v, rfl, hv⟩ := isWs_one hx
    obtain ⟨a, vs, rfl, h1, h2⟩ := isD_tup.mp hv
    exact ⟨a, vs, rfl, .inr ⟨h1.sq, q.pure xE s _ hv⟩⟩
  · exact (bad_no q).elim
def dList (ds : List Dat) : M Dat := match ds with
  | [.lst xs] => pure (.lst xs)
  | [.tup xs] => pure (.lst xs)
  | _ => M.no
theorem c_list : JCW Z (fun xs H Q => ∃ p ys, xs = [.ref p] ∧ (SqL Z.K H p ys ∨ SqT Z.K H p ys) ∧ ∀ l, H l = none → Q (.ref l) (L2.upd H l (.lst ys))) dList := fun x d Er H p S Q hx s q => by
  unfold dList at q
  split at q
  · obtain ⟨v, rfl, hv⟩ := isWs_one hx
    obtain ⟨a, vs, rfl, h1, h2⟩ := hv
    exact ⟨a, vs, rfl, .inl (SqL.of h1.1), fun t nt => q.at_new s nt _ (new_lst s nt h2)⟩
  · obtain ⟨v, rfl, hv⟩ := isWs_one hx
    obtain ⟨a, vs, rfl, h1, h2⟩ := isD_tup.mp hv
    exact ⟨a, vs, rfl, .inr h1.sq, fun t nt => q.at_new s nt _ (new_lst s nt h2)⟩
  · exact (bad_no q).elim
/-- isinstance of one built-in class -/
def tyN : Dat → Option String
  | .non => some "NoneType"
  | .bl _ => some "bool"
  | .int _ => some "int"
  | .str _ => some "str"
  | .tup _ => some "tuple"
  | .lst _ => some "list"
  | .dic _ _ => some "dict"
  | _ => none
def dIsi (ds : List Dat) : M Dat := match ds with
  | [d, .ty n] => M.opt ((tyN d).bind fun t => kitB t n) >>= fun b => pure (.bl b)
  | _ => M.no
theorem tyx_of {H : Hp} {p : Pl} {v : V} {d : Dat} {t : String} (h : IsW Z H p v d) (e : tyN d = some t) : TyX Z.K H v (.type t) := by
  cases d with
  | non => cases e; have h : IsD Z H p v .non := h; rw [isD_non.mp h]; exact .base .non
  | bl b => cases e; have h : IsD Z H p v (.bl b) := h; rw [isD_bl.mp h]; exact .base (.bl b)
  | int i => cases e; have h : IsD Z H p v (.int i) := h; rw [isD_int.mp h]; exact .base (.int i)
  | str x => cases e; have h : IsD Z H p v (.str x) := h; rw [isD_str.mp h]; exact .base (.str x)
  | tup ds =>
    cases e
    have h : IsD Z H p v (.tup ds) := h
    obtain ⟨a, vs, rfl, h1, h2⟩ := isD_tup.mp h
    rcases h1.sq (Z := Z) with (h1 | ⟨o, h1⟩) | ⟨o, its, n, h1, h2, _⟩
    · exact .base (.tup h1)
    · exact .fTuple h1
    · exact .kTuple h1 h2
  | lst ds =>
    cases e
    obtain ⟨a, vs, rfl, h1, h2⟩ := h
    exact .base (.lst h1.1)
  | dic ks ds =>
    cases e
    obtain ⟨a, vs, rfl, h1, _⟩ := h
    exact .base (.dK h1.1)
  | _ => cases e
theorem c_isi : JCW Z (rIsi Z.K) dIsi := fun x d Er H p S Q hx s q => by
  unfold dIsi at q
  split at q
  · rename_i d n
    obtain ⟨b, e, q⟩ := q.opt
    cases et : tyN d with
    | none => rw [et] at e; cases e
    | some t =>
      rw [et] at e
      have e : kitB t n = some b := e
      obtain ⟨v, r, rfl, h1, h2⟩ := hx
      obtain ⟨w, rfl, hw⟩ := isDs_one h2
      rw [isD_ty.mp hw]
      exact ⟨v, .ty n, _, _, b, rfl, .ty n, tyx_of h1 et, kit_ty e, q.pure xE s _ (isD_bl.mpr rfl)⟩
  · exact (bad_no q).elim
/-- repr -/
def okShow (y : PyData) : Bool := y.showable && !y.hasDict && decide (y.depth ≤ 64) && decide (y.shown.length ≤ sizeLine) && (match y with | .int i => decide (i.natAbs.log2 < 1920) | _ => true)
def dRepr (ds : List Dat) : M Dat := match ds with
  | [d] => M.opt (toPy d) >>= fun y => M.need (okShow y) >>= fun _ => pure (.str y.shown)
  | _ => M.no
theorem c_repr : JCW Z (Zg.rReprD Z.K) dRepr := fun x d Er H p S Q hx s q => by
  unfold dRepr at q
  split at q
  · obtain ⟨y, e, q⟩ := q.opt
    obtain ⟨c, q⟩ := q.need
    obtain ⟨v, rfl, hv⟩ := isWs_one hx
    unfold okShow at c
    simp only [Bool.and_eq_true, decide_eq_true_eq, Bool.not_eq_true'] at c
    refine ⟨v, y, rfl, hv.dp e, c.1.1.1.1, c.1.1.1.2, c.1.1.2, c.1.2, fun i z => ?_, q.pure xE s _ (isD_str.mpr rfl)⟩
    subst z
    have hd := hv.dp e
    cases hd
    have c2 := c.2
    simp only [decide_eq_true_eq] at c2
    exact c2
  · exact (bad_no q).elim
def dStr (ds : List Dat) : M Dat := match ds with
  | [.int i] => M.need (decide (i.natAbs.log2 < 1920)) >>= fun _ => pure (.str (toString i))
  | _ => M.no
theorem c_str : JC Z (IsDs Z) (IsD Z) (fun xs H Q => ∃ i, xs = [.int i] ∧ i.natAbs.log2 < 1920 ∧ Q (.str (toString i)) H) dStr := fun x d Er H p S Q hx s q => by
  unfold dStr at q
  split at q
  · obtain ⟨c, q⟩ := q.need
    obtain ⟨v, rfl, h1⟩ := isDs_one hx
    exact ⟨_, by rw [isD_int.mp h1], of_decide_eq_true c, q.pure xE s _ (isD_str.mpr rfl)⟩
  · exact (bad_no q).elim
/-- no-argument methods of a text that tell a truth -/
def dM0 (f : Str → Bool) (d : Dat) : M Dat := match d with
  | .str x => pure (.bl (f x))
  | _ => M.no
end
end Zd

namespace Zd
open PySem PySem.Spec PyProof.Rows L2

/-! ### a def's body, its calls -/
/-- what is raised: an error of the class c, its fields ns with the values ds -/
def ErOf (Z : Cz) (E : XK) : ErW := fun c fs _ H α γ => ∀ ns ds, fs = [.obj c ns ds] → ∀ (d : Addr) (H' : Hp) (vs : List V), H d = none → Same H H' → H' d = some (.xd (ns.zip vs)) → ns.length = vs.length → IsDs Z H' ⟨α, [], γ⟩ vs ds → E (.ref (Z.κ c)) (some d) H'
def spD (Z : Cz) (n : Nat) (F : List Dat → M Dat) : Sp := fun vs H Q E => vs.length = n ∧ ∃ (p : Pl) (ds : List Dat) (S : List Dat), p.ω = [] ∧ IsDs Z H p vs ds ∧ IsS Z H p S ∧
  Post Z (ErOf Z E) ExtE (F ds S) H p (fun d _ H' p' => ∀ v, IsD Z H' p' v d → Q v H')
def startE (N : Nat) (ds : List Dat) : Env := ds.map some ++ List.replicate (N - ds.length) none
def outF : Flow → M Dat
  | .rt d => pure d
  | .nx _ => pure .non
  | _ => M.no
def runD (N : Nat) (b : Env → M Flow) (ds : List Dat) : M Dat := b (startE N ds) >>= outF
section
variable {Z : Cz} {Er : ErW} {O : List Nat} {te ta tb : TE} {ts : TS} {tl : TA} {m m1 m2 : Env → M Dat} {ml : Env → M (List Dat)} {ms : Env → M Flow}
theorem IsDs.start {H : Hp} {p : Pl} : ∀ {ds : List Dat} {vs : List V} {i : Nat} {d : Dat} {k l : Nat}, IsDs Z H p vs ds → (ds.map some ++ List.replicate k none)[i]? = some (some d) → i < ds.length ∧ ∃ v, (vs.map some ++ List.replicate l none)[i]? = some (some v) ∧ IsD Z H p v d := by
  intro ds vs i d k l h e
  have hl := h.len
  by_cases c : i < ds.length
  · rw [List.getElem?_append_left (by rw [List.length_map]; exact c), List.getElem?_map] at e
    cases q : ds[i]? with
    | none => rw [q] at e; cases e
    | some x =>
      rw [q] at e
      cases e
      obtain ⟨v, h1, h2⟩ := h.get q
      refine ⟨c, v, ?_, h2⟩
      rw [List.getElem?_append_left (by rw [List.length_map, hl]; exact c), List.getElem?_map, h1]
      rfl
  · rw [List.getElem?_append_right (by rw [List.length_map]; omega)] at e
    rw [List.getElem?_replicate] at e
    split at e <;> cases e
theorem isE_start {H : Hp} {p : Pl} {N : List Str} {ds : List Dat} {vs : List V} (h : IsDs Z H p vs ds) (hO : ∀ i ∈ O, ds.length ≤ i) : IsE Z O H p (L2.start N vs) (startE N.length ds) := by
  have hl := h.len
  refine ⟨?_, fun i d _ q => (h.start q).2, fun i d oi q => ?_, fun i j a oi oj ne hi hj q => ?_⟩
  · unfold L2.start startE
    rw [List.length_append, List.length_append, List.length_map, List.length_map, List.length_replicate, List.length_replicate, hl]
  · have z := (IsDs.start (l := 0) h q).1
    have := hO i oi
    omega
  · obtain ⟨d, hi⟩ := hi
    have z := (IsDs.start (l := 0) h hi).1
    have := hO i oi
    omega
theorem IsW.exit {H : Hp} {p : Pl} {S : List Dat} (s : IsS Z H p S) {v : V} {d : Dat} (h : IsW Z H p v d) : IsD Z H ⟨p.α, [], p.γ⟩ v d := by
  have l2 : ∀ b, (⟨p.α, [], p.γ⟩ : Pl).has b → p.has b := fun b h => h.imp id fun h => .inr (h.resolve_left List.not_mem_nil)
  have k : ∀ (ds : List Dat) {vs : List V}, IsDs Z H p vs ds → IsDs Z H ⟨p.α, [], p.γ⟩ vs ds := fun ds _ h => IsDs.less (p := p) (p' := ⟨p.α, [], p.γ⟩) rfl l2 _ h
  have nh : ∀ {a : Addr}, a ∉ p.α → a ∉ p.γ → ¬ (⟨p.α, [], p.γ⟩ : Pl).has a := fun h1 h2 h => h.elim h1 fun h => h.elim List.not_mem_nil h2
  cases d with
  | lst ds => obtain ⟨a, vs, rfl, ⟨h1, n1, n2⟩, h2⟩ := h; exact isD_lst.mpr ⟨a, vs, rfl, ⟨h1, nh n1 n2⟩, k _ h2⟩
  | dic ks ds => obtain ⟨a, vs, rfl, ⟨h1, n1, n2⟩, hl, h2⟩ := h; exact isD_dic.mpr ⟨a, vs, rfl, ⟨h1, nh n1 n2⟩, hl, k _ h2⟩
  | obj c fs ds => obtain ⟨a, vs, rfl, ⟨h1, n1, n2⟩, hl, h2⟩ := h; exact isD_obj.mpr ⟨a, vs, rfl, ⟨h1, nh n1 n2⟩, hl, k _ h2⟩
  | non => exact IsD.less (p := p) (p' := ⟨p.α, [], p.γ⟩) rfl l2 _ h
  | bl b => exact IsD.less (p := p) (p' := ⟨p.α, [], p.γ⟩) rfl l2 _ h
  | int i => exact IsD.less (p := p) (p' := ⟨p.α, [], p.γ⟩) rfl l2 _ h
  | str x => exact IsD.less (p := p) (p' := ⟨p.α, [], p.γ⟩) rfl l2 _ h
  | tup ds => exact IsD.less (p := p) (p' := ⟨p.α, [], p.γ⟩) rfl l2 _ h
  | loc n => exact IsD.less (p := p) (p' := ⟨p.α, [], p.γ⟩) rfl l2 _ h
  | ty n => exact IsD.less (p := p) (p' := ⟨p.α, [], p.γ⟩) rfl l2 _ h
  | cls n => exact IsD.less (p := p) (p' := ⟨p.α, [], p.γ⟩) rfl l2 _ h
  | scr n => exact IsD.less (p := p) (p' := ⟨p.α, [], p.γ⟩) rfl l2 _ h
/-- from the entry (H0, p0) to a frame's end -/
theorem Post.exit {α : Type} {o : Out α} {H0 H : Hp} {p0 p : Pl} {C : α → List Dat → Hp → Pl → Prop} (q : Post Z Er ExtE o H0 p0 C) (h0 : p0.ω = []) (e0 : Ext H0 p0 H p) : Post Z Er Ext o H p (fun a S' H' p' => C a S' H' ⟨p'.α, [], p'.γ⟩) := by
  have key : ∀ H' p' S', Ext H p H' p' → IsS Z H' p' S' → ExtE H0 p0 H' ⟨p'.α, [], p'.γ⟩ ∧ IsS Z H' ⟨p'.α, [], p'.γ⟩ S' := fun H' p' S' e s => by
    have e2 := e0.trans e
    refine ⟨⟨e2.α, h0.symm, e2.γ, fun a o h n => e2.k a o h n (by rw [h0]; exact List.not_mem_nil), e2.t⟩, s.less fun a h => absurd h List.not_mem_nil⟩
  unfold Post at q ⊢
  cases o with
  | ok a S2 => exact fun H' p' e s => q H' ⟨p'.α, [], p'.γ⟩ (key H' p' S2 e s).1 (key H' p' S2 e s).2
  | er a b S2 => exact fun H' p' e s => q H' ⟨p'.α, [], p'.γ⟩ (key H' p' S2 e s).1 (key H' p' S2 e s).2
  | bad => exact q
/-- THE RULE: a body's reading from what it does with trees -/
theorem ok_body {N : List Str} {n : Nat} {vs : List V} {H : Hp} {Q : VK} {E : XK} (hj : JS Z (ErOf Z E) O ts ms) (hO : ∀ i ∈ O, n ≤ i) (h : spD Z n (runD N.length ms) vs H Q E) : ts { nx := fun _ H' => Q .non H', rt := Q } (L2.start N vs) H := by
  obtain ⟨hl, p, ds, S, h0, hd, hS, q⟩ := h
  refine hj (L2.start N vs) H p (startE N.length ds) S _ (isE_start hd fun i oi => by rw [← hd.len, hl]; exact hO i oi) hS ?_
  have q2 := (q.exit h0 Ext.refl).bnd xS
  refine q2.mono fun f S' H' p' e s q3 => ?_
  cases f with
  | rt d => exact fun v hv => Post.pure xS q3 s v (hv.exit s)
  | nx ρ => exact fun σ hσ => Post.pure xS q3 s .non (isD_non.mpr rfl)
  | bk ρ => exact (bad_no (S := S') q3).elim
  | ct ρ => exact (bad_no (S := S') q3).elim
/-- what is raised is not spoken of -/
def calm {α : Type} (m : M α) : M α := fun S => match m S with
  | .ok a S' => .ok a S'
  | _ => .bad
theorem Post.never {α : Type} {o : Out α} {H : Hp} {p : Pl} {X : XR} {C : α → List Dat → Hp → Pl → Prop} (q : Post Z (fun _ _ _ _ _ _ => False) X o H p C) (Er' : ErW) : Post Z Er' X o H p C := by
  unfold Post at q ⊢
  cases o with
  | ok a S' => exact q
  | er c fs S' => exact fun H' p' e s => (q H' p' e s).elim
  | bad => exact q
theorem Post.calm {α : Type} {m : M α} {S : List Dat} {H : Hp} {p : Pl} {X : XR} {C : α → List Dat → Hp → Pl → Prop} (q : Post Z Er X (Zd.calm m S) H p C) (Er' : ErW) : Post Z Er' X (m S) H p C := by
  unfold Zd.calm at q
  cases z : m S with
  | ok a S' => rw [z] at q; exact q
  | er c fs S' => rw [z] at q; exact q.elim
  | bad => rw [z] at q; exact q.elim
def xCall (F : List Dat → M Dat) (l : Env → M (List Dat)) (ρ : Env) : M Dat := l ρ >>= fun ds => calm (F ds)
/-- the callee may not touch the caller's own places -/
def Pl.shut (p : Pl) : Pl := ⟨p.α, [], p.γ ++ p.ω⟩
theorem shut_has {p : Pl} {a : Addr} : p.shut.has a ↔ p.has a := by
  unfold Pl.shut Pl.has
  constructor
  · rintro (h | h | h)
    · exact .inl h
    · exact absurd h List.not_mem_nil
    · exact .inr ((List.mem_append.mp h).symm)
  · rintro (h | h | h)
    · exact .inl h
    · exact .inr (.inr (List.mem_append_right _ h))
    · exact .inr (.inr (List.mem_append_left _ h))
theorem IsS.shut {H : Hp} {p : Pl} {S : List Dat} (s : IsS Z H p S) : IsS Z H p.shut S :=
  ⟨s.len, s.nd, fun a h => absurd h List.not_mem_nil, fun a h => (List.mem_append.mp h).elim (s.dg a) fun h => (s.dj a h).1, fun a h => s.wt a (h.elim (fun h => absurd h List.not_mem_nil) fun h => (List.mem_append.mp h).symm),
    fun n a d h1 h2 => IsTop.less (p := p) (p' := p.shut) rfl (fun a h => shut_has.mp h) (s.at_ n a d h1 h2)⟩
theorem Post.shut {α : Type} {o : Out α} {H : Hp} {p : Pl} {C : α → List Dat → Hp → Pl → Prop} (hS : ∀ a ∈ p.ω, a ∉ p.γ) (nd : ∀ a ∈ p.ω, H a ≠ none) (q : Post Z Er ExtE o H p C) (hEr : ∀ c fs S H α γ, Er c fs S H α γ → False) :
    Post Z Er ExtE o H p.shut (fun a S' H' p' => C a S' H' ⟨p'.α, p.ω, p.γ⟩) := by
  have key : ∀ H' p' S', ExtE H p.shut H' p' → IsS Z H' p' S' → ExtE H p H' ⟨p'.α, p.ω, p.γ⟩ ∧ IsS Z H' ⟨p'.α, p.ω, p.γ⟩ S' := fun H' p' S' e s => by
    have eg : p'.γ = p.γ ++ p.ω := e.γ
    have ew : p'.ω = [] := e.ω
    refine ⟨⟨e.α, rfl, rfl, e.k, e.t⟩, ⟨s.len, s.nd, fun a h => ⟨s.dg a (by rw [eg]; exact List.mem_append_right _ h), hS a h⟩, fun a h => s.dg a (by rw [eg]; exact List.mem_append_left _ h), fun a h => s.wt a (.inr (by rw [eg]; exact h.elim (List.mem_append_right _) (List.mem_append_left _))), fun n a d h1 h2 => IsTop.less (p := p') (p' := ⟨p'.α, p.ω, p.γ⟩) rfl (fun b hb => ?_) (s.at_ n a d h1 h2)⟩⟩
    rcases hb with hb | hb | hb
    · exact .inl hb
    · exact .inr (.inr (by rw [eg]; exact List.mem_append_right _ hb))
    · exact .inr (.inr (by rw [eg]; exact List.mem_append_left _ hb))
  unfold Post at q ⊢
  cases o with
  | ok a S2 => exact fun H' p' e s => q H' ⟨p'.α, p.ω, p.γ⟩ (key H' p' S2 e s).1 (key H' p' S2 e s).2
  | er a b S2 => exact fun H' p' e s => (hEr _ _ _ _ _ _ (q H' ⟨p'.α, p.ω, p.γ⟩ (key H' p' S2 e s).1 (key H' p' S2 e s).2)).elim
  | bad => exact q
theorem IsDs.shut {H : Hp} {p : Pl} {vs : List V} {ds : List Dat} (h : IsDs Z H p vs ds) : IsDs Z H p.shut vs ds := IsDs.less (p := p) (p' := p.shut) rfl (fun a h => shut_has.mp h) _ h
theorem IsD.unshut {H : Hp} {p p' : Pl} (eg : p'.γ = p.γ ++ p.ω) (ew : p'.ω = []) {v : V} {d : Dat} (h : IsD Z H p' v d) : IsD Z H ⟨p'.α, p.ω, p.γ⟩ v d := IsD.less (p := p') (p' := ⟨p'.α, p.ω, p.γ⟩) rfl (fun b hb => by
    rcases hb with hb | hb | hb
    · exact .inl hb
    · exact .inr (.inr (by rw [eg]; exact List.mem_append_right _ hb))
    · exact .inr (.inr (by rw [eg]; exact List.mem_append_left _ hb))) _ h
/-- what a call asks of its promise -/
theorem call_sp {F : List Dat → M Dat} {n : Nat} {H : Hp} {p : Pl} {S : List Dat} {vs : List V} {ds : List Dat} {Q : VK} {E : XK} (hn : vs.length = n) (hd : IsDs Z H p vs ds) (hS : IsS Z H p S) (q : Post Z Er ExtE (calm (F ds) S) H p (fun d _ H' p' => ∀ v, IsD Z H' p' v d → Q v H')) : spD Z n F vs H Q E := by
  refine ⟨hn, p.shut, ds, S, rfl, hd.shut, hS.shut, ?_⟩
  have z := (q.calm (fun _ _ _ _ _ _ => False)).shut (fun a h => (hS.dj a h).2) (fun a h => hS.wt a (.inl h)) (fun _ _ _ _ _ _ h => h)
  exact (z.mono fun d S' H' p' e s k v hv => k v (hv.unshut e.γ e.ω)).never (ErOf Z E)
theorem j_call {F : List Dat → M Dat} {n : Nat} {E : XK} (hl : JA Z Er O tl ml) (hn : ∀ ρ S ds S', ml ρ S = .ok ds S' → ds.length = n) : JD Z Er O (tCall (spD Z n F) [] E tl) (xCall F ml) := fun σ H p ρ S Q hE hS q => by
  refine hl σ H p ρ S _ hE hS ?_
  have q2 := q.bnd xE
  unfold Post at q2 ⊢
  cases z : ml ρ S with
  | ok ds S1 =>
    rw [z] at q2
    intro H1 p1 e1 s1 vs hv
    have hlen := hn ρ S ds S1 z
    show spD Z n F (vs ++ []) H1 Q E
    rw [List.append_nil]
    exact call_sp (hv.len.trans hlen) hv s1 (q2 H1 p1 e1 s1)
  | er c fs S1 => rw [z] at q2; exact q2
  | bad => rw [z] at q2; exact q2
theorem len_nil {ρ : Env} {S ds S' : List Dat} (h : xNil ρ S = .ok ds S') : ds.length = 0 := by cases h; rfl
theorem len_cons {a : Env → M Dat} {l : Env → M (List Dat)} {n : Nat} (hl : ∀ ρ S ds S', l ρ S = .ok ds S' → ds.length = n) : ∀ ρ S ds S', xCons a l ρ S = .ok ds S' → ds.length = n + 1 := fun ρ S ds S' h => by
  unfold xCons at h
  rw [m_bind] at h
  cases z : a ρ S with
  | ok x S1 =>
    rw [z] at h
    simp only [m_bind] at h
    cases z2 : l ρ S1 with
    | ok xs S3 =>
      rw [z2] at h
      cases h
      exact congrArg (· + 1) (hl ρ S1 xs _ z2)
    | er c fs S2 => rw [z2] at h; cases h
    | bad => rw [z2] at h; cases h
  | er c fs S1 => rw [z] at h; cases h
  | bad => rw [z] at h; cases h

/-! ### fields, own slots, instances -/
def lkD (f : Str) : List Str → List Dat → Option Dat
  | g :: gs, d :: ds => if f == g then some d else lkD f gs ds
  | _, _ => none
def putN (f : Str) : List Str → List Str
  | [] => [f]
  | g :: gs => if g = f then g :: gs else g :: putN f gs
def putV (f : Str) (x : Dat) : List Str → List Dat → List Dat
  | [], _ => [x]
  | g :: gs, d :: ds => if g = f then x :: ds else d :: putV f x gs ds
  | _ :: _, [] => []
theorem lk_rel {H : Hp} {p : Pl} {f : Str} : ∀ {gs : List Str} {ds : List Dat} {vs : List V} {d : Dat}, IsDs Z H p vs ds → lkD f gs ds = some d → ∃ v, (gs.zip vs).lookup f = some v ∧ IsD Z H p v d
  | [], ds, _, d, _, e => by cases ds <;> cases e
  | g :: gs, [], _, d, h, e => by cases e
  | g :: gs, c :: ds, _, d, h, e => by
    obtain ⟨v, r, rfl, h1, h2⟩ := isDs_cons.mp h
    unfold lkD at e
    rw [List.zip_cons_cons, List.lookup_cons]
    cases q : f == g with
    | true =>
      rw [q, if_pos rfl] at e
      cases e
      exact ⟨v, rfl, h1⟩
    | false =>
      rw [q] at e
      exact lk_rel h2 e
theorem put_rel {H : Hp} {p : Pl} {f : Str} {x : Dat} {y : V} (hx : IsD Z H p y x) : ∀ {gs : List Str} {ds : List Dat} {vs : List V}, gs.length = vs.length → IsDs Z H p vs ds → ∃ ws, putF f y (gs.zip vs) = (putN f gs).zip ws ∧ (putN f gs).length = ws.length ∧ IsDs Z H p ws (putV f x gs ds)
  | [], ds, vs, hl, h => by
    have e : vs = [] := List.length_eq_zero_iff.mp hl.symm
    subst e
    exact ⟨[y], rfl, rfl, .one hx⟩
  | g :: gs, [], vs, hl, h => by rw [isDs_nil.mp h] at hl; cases hl
  | g :: gs, c :: ds, _, hl, h => by
    obtain ⟨v, r, rfl, h1, h2⟩ := isDs_cons.mp h
    unfold putN putV
    rw [List.zip_cons_cons]
    unfold putF
    by_cases c : g = f
    · rw [if_pos c, if_pos c, if_pos c]
      exact ⟨y :: r, rfl, hl, isDs_cons.mpr ⟨y, r, rfl, hx, h2⟩⟩
    · rw [if_neg c, if_neg c, if_neg c]
      obtain ⟨ws, e1, e2, e3⟩ := put_rel (f := f) hx (gs := gs) (ds := ds) (vs := r) (Nat.succ.inj hl) h2
      exact ⟨v :: ws, by rw [List.zip_cons_cons, e1], by rw [List.length_cons, List.length_cons, e2], isDs_cons.mpr ⟨v, ws, rfl, h1, e3⟩⟩
/-- the attributes of the class c -/
structure ClsT (Z : Cz) (c : String) (fs : List Str) : Prop where
  cl : Cls Z.K (Z.κ c)
  no : ∀ f ∈ fs, NoAttr Z.K (Z.κ c) f
def dFld (c : String) (f : Str) (d : Dat) : M Dat := match d with
  | .obj c' fs ds => M.need (decide (c' = c)) >>= fun _ => M.opt (lkD f fs ds)
  | _ => M.no
theorem j_fld {c : String} {f : Str} {fs : List Str} (T : ClsT Z c fs) (hf : f ∈ fs) (h : JW Z Er O ta m) : JD Z Er O (tFld Z.K ta f) (xUn (dFld c f) m) := fun σ H p ρ S Q hE hS q =>
  h σ H p ρ S _ hE hS ((q.bnd xE).mono fun d S1 H1 p1 e1 s1 q1 v hv => by
    unfold dFld at q1
    split at q1
    · rename_i c' gs ds
      obtain ⟨ec, q2⟩ := Post.need q1
      clear q1
      have ec := of_decide_eq_true ec
      subst ec
      obtain ⟨x, ex, k⟩ := opt_pure xE q2 s1
      obtain ⟨a, vs, rfl, h1, hl, h2⟩ := hv
      obtain ⟨dx, ha⟩ := h1.1
      obtain ⟨w, e1, e2⟩ := lk_rel h2 ex
      exact ⟨a, _, dx, _, w, rfl, ha, T.cl, T.no f hf, e1, k w e2⟩
    · exact (bad_no (S := S1) q1).elim)
/-- an own slot's object is written -/
theorem own_put {H : Hp} {p : Pl} {σ : L2.St} {ρ : Env} {i : Nat} {a : Addr} {d d' : Dat} {o : HO} (hE : IsE Z O H p σ ρ) (oi : i ∈ O) (hρ : ρ[i]? = some (some d)) (hσ : σ[i]? = some (some (.ref a))) (ha : a ∈ p.ω)
    (ht : IsTop Z (L2.upd H a o) p a d') : IsE Z O (L2.upd H a o) p σ (ρ.set i (some d')) := by
  have e : Ext H p (L2.upd H a o) p := ext_put ha
  have lt := (List.getElem?_eq_some_iff.mp hρ).1
  have step : ∀ (j : Nat) (x : Dat), (ρ.set i (some d'))[j]? = some (some x) → (j = i ∧ x = d') ∨ (j ≠ i ∧ ρ[j]? = some (some x)) := fun j x q => by
    by_cases c : i = j
    · subst c
      rw [List.getElem?_set_self lt] at q
      cases q
      exact .inl ⟨rfl, rfl⟩
    · rw [List.getElem?_set_ne c] at q
      exact .inr ⟨fun z => c z.symm, q⟩
  have has : ∀ j : Nat, (∃ x, (ρ.set i (some d'))[j]? = some (some x)) → ∃ x, ρ[j]? = some (some x) := fun j ⟨x, q⟩ => by
    rcases step j x q with ⟨rfl, _⟩ | ⟨_, q⟩
    · exact ⟨d, hρ⟩
    · exact ⟨x, q⟩
  refine ⟨by rw [List.length_set]; exact hE.len, fun j x nj q => ?_, fun j x oj q => ?_, fun j k b oj ok ne hj hk => hE.dj j k b oj ok ne (has j hj) (has k hk)⟩
  · rcases step j x q with ⟨rfl, _⟩ | ⟨_, q⟩
    · exact absurd oi nj
    · obtain ⟨v, h1, h2⟩ := hE.get j x nj q
      exact ⟨v, h1, h2.ext e⟩
  · rcases step j x q with ⟨rfl, rfl⟩ | ⟨ne, q⟩
    · exact ⟨a, hσ, ha, ht⟩
    · obtain ⟨b, h1, h2, h3⟩ := hE.own j x oj q
      refine ⟨b, h1, h2, h3.ext e fun u z => ?_⟩
      rw [upd_ne fun c => ?_]
      · exact z
      · subst c
        exact hE.dj j i b oj oi ne ⟨x, q⟩ ⟨d, hρ⟩ h1 hσ
/-- x = a new list | dict, the slot is own -/
def sAsgO (i : Nat) (a : Env → M Dat) (ρ : Env) : M Flow := a ρ >>= fun d => pure (.nx (ρ.set i (some d)))
theorem js_asgO {i : Nat} (oi : i ∈ O) (h : JF Z Er O ta m) : JS Z Er O (tAsg ta (gName i)) (sAsgO i m) := fun σ H p ρ S D hE hS q =>
  h σ H p ρ S _ hE hS ((q.bndK.of xS).mono fun d S1 H1 p1 e1 s1 q1 a na na1 nh hs ht => by
    show D.nx (σ.set i (some (.ref a))) H1
    have eP : ExtC H p H1 ⟨p1.α, p1.ω ++ [a], p1.γ⟩ := by
      have z := ExtC.plus (p := p) (α' := p1.α) ⟨e1.α, rfl, rfl, e1.k, e1.t⟩ na
      rw [← e1.ω, ← e1.γ] at z
      exact z
    refine q1 H1 _ eP.s hs _ ?_
    have mA : a ∈ p1.ω ++ [a] := List.mem_append_right _ (List.mem_singleton.mpr rfl)
    have ltO : ∀ x, ρ[i]? = some x → i < σ.length := fun x q => by rw [hE.len]; exact (List.getElem?_eq_some_iff.mp q).1
    have step : ∀ (j : Nat) (x : Dat), (ρ.set i (some d))[j]? = some (some x) → (j = i ∧ x = d ∧ i < σ.length) ∨ (j ≠ i ∧ ρ[j]? = some (some x)) := fun j x q => by
      by_cases c : i = j
      · subst c
        rw [List.getElem?_set_self'] at q
        cases z : ρ[i]? with
        | none => rw [z] at q; cases q
        | some w => rw [z] at q; cases q; exact .inl ⟨rfl, rfl, ltO w z⟩
      · rw [List.getElem?_set_ne c] at q
        exact .inr ⟨fun z => c z.symm, q⟩
    have old : ∀ (j : Nat) (x : Dat), j ∈ O → ρ[j]? = some (some x) → σ[j]? ≠ some (some (.ref a)) := fun j x oj q => by
      obtain ⟨b, h1, h2, h3⟩ := hE.own j x oj q
      rw [h1]
      intro c
      cases c
      exact hS.wt a (.inl h2) na
    refine ⟨by rw [List.length_set, List.length_set]; exact hE.len, fun j x nj q => ?_, fun j x oj q => ?_, fun j k b oj ok ne hj hk q => ?_⟩
    · rcases step j x q with ⟨rfl, _⟩ | ⟨ne, q⟩
      · exact absurd oi nj
      · obtain ⟨v, h1, h2⟩ := hE.get j x nj q
        rw [List.getElem?_set_ne fun z => ne z.symm]
        exact ⟨v, h1, h2.ext eP.s⟩
    · rcases step j x q with ⟨rfl, rfl, lt⟩ | ⟨ne, q⟩
      · rw [List.getElem?_set_self lt]
        exact ⟨a, rfl, mA, ht⟩
      · obtain ⟨b, h1, h2, h3⟩ := hE.own j x oj q
        rw [List.getElem?_set_ne fun z => ne z.symm]
        exact ⟨b, h1, List.mem_append_left _ (by rw [e1.ω]; exact h2), h3.ext eP.s fun u z => e1.k _ _ z (hS.dj b h2).1⟩
    · obtain ⟨x, hj⟩ := hj
      have hj0 := hj
      obtain ⟨y, hk⟩ := hk
      rcases step j x hj with ⟨rfl, _, lt⟩ | ⟨nj, hj⟩
      · rcases step k y hk with ⟨rfl, _⟩ | ⟨nk, hk⟩
        · exact absurd rfl ne
        · rw [List.getElem?_set_self lt] at q
          cases q
          rw [List.getElem?_set_ne fun z => nk z.symm]
          exact old k y ok hk
      · rw [List.getElem?_set_ne fun z => nj z.symm] at q
        rcases step k y hk with ⟨rfl, _, lt⟩ | ⟨nk, hk⟩
        · rw [List.getElem?_set_self lt]
          intro c
          cases c
          rcases step j x hj0 with ⟨z, _⟩ | ⟨_, hj1⟩
          · exact absurd z nj
          · exact old j x oj hj1 q
        · rw [List.getElem?_set_ne fun z => nk z.symm]
          exact hE.dj j k b oj ok ne ⟨x, hj⟩ ⟨y, hk⟩ q)
def objAt (ρ : Env) (i : Nat) : Option (String × List Str × List Dat) := match ρ[i]? with
  | some (some (.obj c fs ds)) => some (c, fs, ds)
  | _ => none
def lstAt (ρ : Env) (i : Nat) : Option (List Dat) := match ρ[i]? with
  | some (some (.lst ds)) => some ds
  | _ => none
def locAt (ρ : Env) (i : Nat) : Option Nat := match ρ[i]? with
  | some (some (.loc n)) => some n
  | _ => none
theorem objAt_is {ρ : Env} {i : Nat} {c : String} {fs : List Str} {ds : List Dat} (h : objAt ρ i = some (c, fs, ds)) : ρ[i]? = some (some (.obj c fs ds)) := by
  unfold objAt at h
  split at h
  · cases h; assumption
  · cases h
theorem lstAt_is {ρ : Env} {i : Nat} {ds : List Dat} (h : lstAt ρ i = some ds) : ρ[i]? = some (some (.lst ds)) := by
  unfold lstAt at h
  split at h
  · cases h; assumption
  · cases h
theorem locAt_is {ρ : Env} {i : Nat} {n : Nat} (h : locAt ρ i = some n) : ρ[i]? = some (some (.loc n)) := by
  unfold locAt at h
  split at h
  · cases h; assumption
  · cases h
def one {α : Type} : List α → Option α
  | [d] => some d
  | _ => none
theorem one_is {α : Type} {ds : List α} {d : α} (h : one ds = some d) : ds = [d] := by
  unfold one at h
  split at h
  · cases h; rfl
  · cases h
def dInt1 : Dat → Option Int
  | .int i => some i
  | _ => none
theorem dInt1_is {d : Dat} {i : Int} (h : dInt1 d = some i) : d = .int i := by
  cases d <;> first | (cases h; rfl) | cases h
/-- self.f = e, self the frame's own -/
def sSetF (c : String) (i : Nat) (f : Str) (a : Env → M Dat) (ρ : Env) : M Flow := a ρ >>= fun x => M.opt (objAt ρ i) >>= fun o => M.need (decide (o.1 = c) && decide (o.2.1.length < 1000)) >>= fun _ =>
  pure (.nx (ρ.set i (some (.obj o.1 (putN f o.2.1) (putV f x o.2.1 o.2.2)))))
theorem js_setF {c : String} {i : Nat} {f : Str} {fs : List Str} (T : ClsT Z c fs) (hf : f ∈ fs) (oi : i ∈ O) (h : JD Z Er O te m) : JS Z Er O (sFld Z.K (tVar i) te f) (sSetF c i f m) := fun σ H p ρ S D hE hS q =>
  h σ H p ρ S _ hE hS (q.bndE.mono fun d S1 H1 p1 e1 s1 q1 v hv => by
    have hE1 := hE.ext e1 hS
    obtain ⟨⟨c', gs, ds⟩, eo, q1⟩ := Post.opt q1
    have eρ := objAt_is eo
    obtain ⟨ec, q2⟩ := Post.need q1
    clear q1
    simp only [Bool.and_eq_true, decide_eq_true_eq] at ec
    obtain ⟨ec, few⟩ := ec
    subst ec
    obtain ⟨a, h1, h2, dx, vs, h3, hl, h4⟩ := hE1.own i _ oi eρ
    refine ⟨_, h1, a, _, dx, _, rfl, h3, T.cl, T.no f hf, by rw [List.length_zip, ← hl, Nat.min_self]; exact few, ?_⟩
    obtain ⟨ws, g1, g2, g3⟩ := put_rel (f := f) hv hl h4
    rw [g1]
    exact q2 _ _ (ext_put h2) (s1.put h2) _ (own_put hE1 oi eρ h1 h2 ⟨dx, ws, upd_same, g2, g3.ext (ext_put h2)⟩))
/-- x.append(e), x the frame's own -/
def sApp (i : Nat) (l : Env → M (List Dat)) (ρ : Env) : M Flow := M.opt (lstAt ρ i) >>= fun xs => l ρ >>= fun ds => M.opt (one ds) >>= fun d => M.need (decide (xs.length < 100000)) >>= fun _ => pure (.nx (ρ.set i (some (.lst (xs ++ [d])))))
theorem js_app {i : Nat} (oi : i ∈ O) (h : JA Z Er O tl ml) : JS Z Er O (tDrop (tBM Z.K "list" rAppend (tVar i) tl)) (sApp i ml) := fun σ H p ρ S D hE hS q => by
  obtain ⟨xs, el, q⟩ := Post.opt q
  have eρ := lstAt_is el
  obtain ⟨a, h1, h2, vs, h3, h4⟩ := hE.own i _ oi eρ
  refine ⟨_, h1, .inl ⟨rfl, _, SqL.of h3⟩, h σ H p ρ S _ hE hS (q.bndE.mono fun ds S1 H1 p1 e1 s1 q1 ws hws => ?_)⟩
  have hE1 := hE.ext e1 hS
  have h2' : a ∈ p1.ω := by rw [e1.ω]; exact h2
  obtain ⟨d, e1d, q1⟩ := Post.opt q1
  rw [one_is e1d] at hws
  obtain ⟨c, q2⟩ := Post.need q1
  have c := of_decide_eq_true c
  obtain ⟨v, rfl, hv⟩ := isDs_one hws
  have h3' := e1.k _ _ h3 (hS.dj a h2).1
  have sz := sizeLine_eq
  refine ⟨a, vs, v, rfl, rfl, h3', by rw [h4.len]; omega, ?_⟩
  exact q2 _ _ (ext_put h2') (s1.put h2') _ (own_put hE1 oi eρ h1 h2' ⟨vs ++ [v], upd_same, ((h4.ext e1.s).append (.one hv)).ext (ext_put h2')⟩)
/-- x.extend(e), x the frame's own -/
def sExt (i : Nat) (l : Env → M (List Dat)) (ρ : Env) : M Flow := M.opt (lstAt ρ i) >>= fun xs => l ρ >>= fun ds => M.opt (one ds) >>= fun d => M.opt (dLst d) >>= fun ys => M.need (decide (xs.length + ys.length ≤ 100000)) >>= fun _ => pure (.nx (ρ.set i (some (.lst (xs ++ ys)))))
theorem js_ext {i : Nat} (oi : i ∈ O) (h : JA Z Er O tl ml) : JS Z Er O (tDrop (tBM Z.K "list" rExtend (tVar i) tl)) (sExt i ml) := fun σ H p ρ S D hE hS q => by
  obtain ⟨xs, el, q⟩ := Post.opt q
  have eρ := lstAt_is el
  obtain ⟨a, h1, h2, vs, h3, h4⟩ := hE.own i _ oi eρ
  refine ⟨_, h1, .inl ⟨rfl, _, SqL.of h3⟩, h σ H p ρ S _ hE hS (q.bndE.mono fun ds S1 H1 p1 e1 s1 q1 ws hws => ?_)⟩
  have hE1 := hE.ext e1 hS
  have h2' : a ∈ p1.ω := by rw [e1.ω]; exact h2
  obtain ⟨d, e1d, q1⟩ := Post.opt q1
  rw [one_is e1d] at hws
  obtain ⟨ys, ey, q1⟩ := Post.opt q1
  rw [dLst_some ey] at hws
  obtain ⟨c, q2⟩ := Post.need q1
  have c := of_decide_eq_true c
  obtain ⟨v, rfl, hv⟩ := isDs_one hws
  obtain ⟨b, us, rfl, g1, g2⟩ := isD_lst.mp hv
  have h3' := e1.k _ _ h3 (hS.dj a h2).1
  refine ⟨a, b, vs, us, rfl, rfl, h3', g1.1, lim (by rw [h4.len, g2.len]; exact c), ?_⟩
  exact q2 _ _ (ext_put h2') (s1.put h2') _ (own_put hE1 oi eρ h1 h2' ⟨vs ++ us, upd_same, ((h4.ext e1.s).append g2).ext (ext_put h2')⟩)
/-! ### shared places -/
theorem loc_put {H : Hp} {p : Pl} {S : List Dat} (s : IsS Z H p S) {n : Nat} {a : Addr} {o : HO} {d : Dat} (ha : p.α[n]? = some a) (ht : IsTop Z (L2.upd H a o) p a d) : ExtE H p (L2.upd H a o) p ∧ IsS Z (L2.upd H a o) p (S.set n d) := by
  have ma : a ∈ p.α := List.mem_of_getElem? ha
  have e : ExtE H p (L2.upd H a o) p := ⟨⟨[], by simp⟩, rfl, rfl, fun b u h n => by rw [upd_ne fun z => n (by rw [z]; exact ma)]; exact h, fun b h => by
    by_cases c : b = a
    · rw [c, upd_same]; exact nofun
    · rw [upd_ne c]; exact h⟩
  refine ⟨e, ⟨by rw [List.length_set]; exact s.len, s.nd, s.dj, s.dg, fun b h => e.t b (s.wt b h), fun k b x h1 h2 => ?_⟩⟩
  by_cases c : n = k
  · subst c
    rw [ha] at h1
    cases h1
    rw [List.getElem?_set_self (by rw [← s.len]; exact (List.getElem?_eq_some_iff.mp ha).1)] at h2
    cases h2
    exact ht
  · rw [List.getElem?_set_ne c] at h2
    refine (s.at_ k b x h1 h2).ext e.s fun u z => ?_
    rw [upd_ne fun q => c ?_]
    · exact z
    · subst q
      have l1 := (List.getElem?_eq_some_iff.mp ha)
      have l2 := (List.getElem?_eq_some_iff.mp h1)
      obtain ⟨i1, g1⟩ := l1
      obtain ⟨i2, g2⟩ := l2
      exact (List.getElem_inj s.nd).mp (g1.trans g2.symm)
/-- x[i] = e, x a shared list in slot j -/
def setLo (n : Nat) (k : Int) (x : Dat) (ρ : Env) : M Flow := fun S => match S[n]? with
  | some (.lst xs) => match ixN xs.length k with
    | some q => .ok (.nx ρ) (S.set n (.lst (xs.set q x)))
    | none => .bad
  | _ => .bad
def sSetLo (j : Nat) (b a : Env → M Dat) (ρ : Env) : M Flow := a ρ >>= fun x => M.opt (locAt ρ j) >>= fun n => b ρ >>= fun i => M.opt (dInt1 i) >>= fun k => setLo n k x ρ
theorem js_setLo {j : Nat} (nj : j ∉ O) (hb : JD Z Er O tb m2) (ha : JD Z Er O ta m1) : JS Z Er O (tAsg ta (gSub (tVar j) tb rSetL)) (sSetLo j m2 m1) := fun σ H p ρ S D hE hS q =>
  ha σ H p ρ S _ hE hS (q.bndE.mono fun d S1 H1 p1 e1 s1 q1 v hv => by
    have hE1 := hE.ext e1 hS
    obtain ⟨n, eo, q1⟩ := Post.opt q1
    have eρ := locAt_is eo
    obtain ⟨u, h1, h2⟩ := hE1.get j _ nj eρ
    refine ⟨u, h1, ?_⟩
    refine hb σ H1 p1 ρ S1 _ hE1 s1 (q1.bndE.mono fun i S2 H2 p2 e2 s2 q2 w hw => ?_)
    obtain ⟨k, ek, q2⟩ := Post.opt q2
    rw [dInt1_is ek] at hw
    obtain ⟨a, rfl, hα⟩ := isD_loc.mp (h2.ext e2.s)
    cases eS : S2[n]? with
    | none => unfold setLo at q2; rw [eS] at q2; exact q2.elim
    | some dd =>
      cases dd with
      | lst xs =>
        cases ey : ixN xs.length k with
        | none => unfold setLo at q2; rw [eS] at q2; simp only [ey] at q2; exact q2.elim
        | some y =>
          have q3 : Post Z Er Ext (.ok (Flow.nx ρ) (S2.set n (.lst (xs.set y d)))) H2 p2 (fun f x H' p' => FlowOk Z O D f H' p') := by
            unfold setLo at q2; rw [eS] at q2; simp only [ey] at q2; exact q2
          obtain ⟨vs, g1, g2⟩ := s2.at_ n a _ hα eS
          refine ⟨a, vs, k, y, rfl, isD_int.mp hw, g1, by rw [g2.len]; exact ey, ?_⟩
          have ma : a ∈ p2.α := List.mem_of_getElem? hα
          have eX : Ext H2 p2 (L2.upd H2 a (.lst (vs.set y v))) p2 := ⟨⟨[], by simp⟩, ⟨[], by simp⟩, rfl, fun b u h n _ => by rw [upd_ne fun z => n (by rw [z]; exact ma)]; exact h, fun b h => by
              by_cases c : b = a
              · rw [c, upd_same]; exact nofun
              · rw [upd_ne c]; exact h⟩
          obtain ⟨e3, s3⟩ := loc_put (o := .lst (vs.set y v)) (d := .lst (xs.set y d)) s2 hα ⟨vs.set y v, upd_same, (g2.set y (hv.ext e2.s)).ext eX⟩
          exact q3 _ _ e3.s s3 σ ((hE1.ext e2 s1).ext e3 s2)
      | _ => unfold setLo at q2; rw [eS] at q2; exact q2.elim)
/-- a new list that is given back to be shared -/
def sRetLo (a : Env → M Dat) (ρ : Env) : M Flow := a ρ >>= fun d => fun S => .ok (.rt (.loc S.length)) (S ++ [d])
theorem js_retLo (h : JF Z Er O ta m) : JS Z Er O (tRet ta) (sRetLo m) := fun σ H p ρ S D hE hS q =>
  h σ H p ρ S _ hE hS ((q.bndK.of xS).mono fun d S1 H1 p1 e1 s1 q1 a na na1 nh hs ht => by
    have q2 : ∀ H' p', Ext H p H' p' → IsS Z H' p' (S1 ++ [d]) → FlowOk Z O D (.rt (.loc S1.length)) H' p' := q1
    have l2 : ∀ b, (⟨p1.α ++ [a], p1.ω, p1.γ⟩ : Pl).has b → (⟨p1.α, p1.ω ++ [a], p1.γ⟩ : Pl).has b := fun b h => by
      rcases h with h | h | h
      · rcases List.mem_append.mp h with h | h
        · exact .inl h
        · exact .inr (.inl (List.mem_append_right _ h))
      · exact .inr (.inl (List.mem_append_left _ h))
      · exact .inr (.inr h)
    have na1 : a ∉ p1.α := fun z => nh (.inl z)
    have ma : a ∈ p1.ω ++ [a] := List.mem_append_right _ (List.mem_singleton.mpr rfl)
    have hα : (p1.α ++ [a])[S1.length]? = some a := by rw [← hs.len]; simp
    refine q2 H1 ⟨p1.α ++ [a], p1.ω, p1.γ⟩ ⟨?_, ⟨[], by rw [List.append_nil]; exact e1.ω, by simp⟩, e1.γ, fun b u z n _ => e1.k b u z n, e1.t⟩ ⟨?_, ?_, fun b h => ⟨fun z => ?_, (hs.dj b (List.mem_append_left _ h)).2⟩, fun b h z => ?_, fun b h => hs.wt b (h.imp (List.mem_append_left _) id), fun n b x h1 h2 => ?_⟩ (.ref a) ?_
    · obtain ⟨β, g1, g2⟩ := e1.α
      refine ⟨β ++ [a], by rw [g1, List.append_assoc], fun b h => ?_⟩
      rcases List.mem_append.mp h with h | h
      · exact g2 b h
      · rw [List.mem_singleton.mp h]; exact na
    · rw [List.length_append, List.length_append, hs.len]; rfl
    · exact List.nodup_append.mpr ⟨hs.nd, by simp, fun b h c h2 e => na1 (by rw [← List.mem_singleton.mp h2, ← e]; exact h)⟩
    · rcases List.mem_append.mp z with z | z
      · exact (hs.dj b (List.mem_append_left _ h)).1 z
      · exact nh (.inr (.inl (by rw [← List.mem_singleton.mp z]; exact h)))
    · rcases List.mem_append.mp z with z | z
      · exact hs.dg b h z
      · exact nh (.inr (.inr (by rw [← List.mem_singleton.mp z]; exact h)))
    · have mv : ∀ (n : Nat) (x : Addr), p1.α[n]? = some x → (p1.α ++ [a])[n]? = some x := fun n x h => by
        rw [List.getElem?_append_left (List.getElem?_eq_some_iff.mp h).1]; exact h
      by_cases c : n < S1.length
      · rw [List.getElem?_append_left c] at h2
        rw [List.getElem?_append_left (by rw [hs.len]; exact c)] at h1
        exact IsTop.mv (p := ⟨p1.α, p1.ω ++ [a], p1.γ⟩) (p' := ⟨p1.α ++ [a], p1.ω, p1.γ⟩) mv l2 (hs.at_ n b x h1 h2)
      · have lt := (List.getElem?_eq_some_iff.mp h2).1
        rw [List.length_append, List.length_singleton] at lt
        have e : n = S1.length := by omega
        subst e
        rw [hα] at h1
        cases h1
        rw [List.getElem?_append_right (Nat.le_refl _), Nat.sub_self] at h2
        cases h2
        exact IsTop.mv (p := ⟨p1.α, p1.ω ++ [a], p1.γ⟩) (p' := ⟨p1.α ++ [a], p1.ω, p1.γ⟩) mv l2 ht
    · exact (isD_loc (Z := Z) (H := H1) (p := ⟨p1.α ++ [a], p1.ω, p1.γ⟩)).mpr ⟨a, rfl, hα⟩)
end
end Zd

namespace Zd
open PySem PySem.Spec PyProof.Rows L2
section
variable {Z : Cz} {Er : ErW} {O : List Nat} {te ta tb : TE} {ts : TS} {tl : TA} {m m1 m2 : Env → M Dat} {ml : Env → M (List Dat)} {ms : Env → M Flow}
/-! ### objects are shared places -/
theorem push_loc {H : Hp} {p : Pl} {S : List Dat} {x dx C : Addr} (s : IsS Z H p S) (nx : H x = none) (nd : H dx = none) (ne : dx ≠ x) (c : String) (hC : C = Z.κ c) :
    ExtE H p (L2.upd (L2.upd H dx (.own x)) x (.ins C dx [])) ⟨p.α ++ [x], p.ω, p.γ⟩ ∧ IsS Z (L2.upd (L2.upd H dx (.own x)) x (.ins C dx [])) ⟨p.α ++ [x], p.ω, p.γ⟩ (S ++ [.obj c [] []]) := by
  subst hC
  have hx := no_has s nx
  have k : ∀ a o, H a = some o → L2.upd (L2.upd H dx (.own x)) x (.ins (Z.κ c) dx []) a = some o := fun a o h => by
    rw [upd_ne (ne_of_none h nx), upd_ne (ne_of_none h nd)]; exact h
  have t : ∀ a, H a ≠ none → L2.upd (L2.upd H dx (.own x)) x (.ins (Z.κ c) dx []) a ≠ none := fun a h => by
    cases z : H a with
    | none => exact absurd z h
    | some o => rw [k a o z]; exact nofun
  have e : ExtE H p (L2.upd (L2.upd H dx (.own x)) x (.ins (Z.κ c) dx [])) ⟨p.α ++ [x], p.ω, p.γ⟩ := ⟨⟨[x], rfl, fun b h => by rw [List.mem_singleton.mp h]; exact nx⟩, rfl, rfl, fun a o h _ => k a o h, t⟩
  refine ⟨e, ⟨by rw [List.length_append, List.length_append, s.len]; rfl, List.nodup_append.mpr ⟨s.nd, by simp, fun b h c h2 e => hx (.inl (by rw [← List.mem_singleton.mp h2, ← e]; exact h))⟩, fun b h => ⟨fun z => ?_, (s.dj b h).2⟩, fun b h z => ?_, fun b h => t b (s.wt b h), fun n b d h1 h2 => ?_⟩⟩
  · rcases List.mem_append.mp z with z | z
    · exact (s.dj b h).1 z
    · exact hx (.inr (.inl (by rw [← List.mem_singleton.mp z]; exact h)))
  · rcases List.mem_append.mp z with z | z
    · exact s.dg b h z
    · exact hx (.inr (.inr (by rw [← List.mem_singleton.mp z]; exact h)))
  · by_cases q : n < S.length
    · rw [List.getElem?_append_left q] at h2
      have h1 : (p.α ++ [x])[n]? = some b := h1
      rw [List.getElem?_append_left (by rw [s.len]; exact q)] at h1
      exact (s.at_ n b d h1 h2).ext e.s fun o z => k b o z
    · have lt := (List.getElem?_eq_some_iff.mp h2).1
      rw [List.length_append, List.length_singleton] at lt
      have en : n = S.length := by omega
      subst en
      have h1 : (p.α ++ [x])[S.length]? = some b := h1
      rw [← s.len] at h1
      simp only [List.getElem?_append_right (Nat.le_refl _), Nat.sub_self] at h1 h2
      cases h1
      cases h2
      exact ⟨dx, [], upd_same, rfl, isDs_nil.mpr rfl⟩
def newObj (c : String) : M Dat := fun S => .ok (.loc S.length) (S ++ [.obj c [] []])
/-- C(..): __init__ at a new shared place -/
def mkNew (c : String) (F : List Dat → M Dat) (ds : List Dat) : M Dat := newObj c >>= fun o => calm (F (o :: ds)) >>= fun r => M.need (isNon r) >>= fun _ => pure o
theorem isNon_is {d : Dat} (h : isNon d = true) : d = .non := by cases d <;> first | rfl | cases h
theorem calm_bnd {α β : Type} {X : XR} (x : XOk X) {mm : M α} {f : α → M β} {S : List Dat} {H : Hp} {p : Pl} {C : β → List Dat → Hp → Pl → Prop} (q : Post Z Er X ((calm mm >>= f) S) H p C) : Post Z Er X (calm mm S) H p fun a S' H' p' => Post Z Er X (f a S') H' p' C := q.bnd x
theorem Post.okE {α : Type} {X : XR} {a : α} {S S' : List Dat} {H : Hp} {p : Pl} {C : α → List Dat → Hp → Pl → Prop} (q : Post Z Er X (Out.ok a S') H p C) {H' : Hp} {p' : Pl} (e : X H p H' p') (s : IsS Z H' p' S') : C a S' H' p' := q H' p' e s
theorem j_make {c : String} {F : List Dat → M Dat} {n : Nat} {E : XK} (hl : JA Z Er O tl ml) (hn : ∀ ρ S ds S', ml ρ S = .ok ds S' → ds.length = n) : JD Z Er O (tMake (Z.κ c) (spD Z (n + 1) F) [] E tl) (fun ρ => ml ρ >>= mkNew c F) := fun σ H p ρ S Q hE hS q => by
  refine hl σ H p ρ S _ hE hS ?_
  have q2 := q.bndK
  unfold Post at q2 ⊢
  cases z : ml ρ S with
  | ok ds S1 =>
    rw [z] at q2
    intro H1 p1 e1 s1 vs hv x dx nx nd ne
    have hlen := hn ρ S ds S1 z
    rw [List.append_nil]
    obtain ⟨e2, s2⟩ := push_loc s1 nx nd ne c rfl
    have q3 : Post Z Er ExtE (mkNew c F ds S1) H p _ := q2 H1 p1 e1 s1
    have q4 : Post Z Er ExtE ((calm (F (.loc S1.length :: ds)) >>= fun r => M.need (isNon r) >>= fun _ => pure (Dat.loc S1.length)) (S1 ++ [.obj c [] []])) H p _ := q3
    have q5 := (q4.up xE (e1.trans e2)).bnd xE
    have hx : IsD Z (L2.upd (L2.upd H1 dx (.own x)) x (.ins (Z.κ c) dx [])) ⟨p1.α ++ [x], p1.ω, p1.γ⟩ (.ref x) (.loc S1.length) := (isD_loc (Z := Z)).mpr ⟨x, rfl, by rw [← s1.len]; simp⟩
    refine call_sp (S := S1 ++ [.obj c [] []]) (ds := .loc S1.length :: ds) (by rw [List.length_cons, hv.len, hlen]) (isDs_cons.mpr ⟨.ref x, vs, rfl, hx, hv.ext e2.s⟩) s2 (q5.mono fun d S3 H3 p3 e3 s3 q6 v hv3 => ?_)
    obtain ⟨cn, q7⟩ := q6.need
    rw [isNon_is cn] at hv3
    exact ⟨isD_non.mp hv3, q7.pure xE s3 (.ref x) (hx.ext e3.s)⟩
  | er c fs S1 => rw [z] at q2; exact q2
  | bad => rw [z] at q2; exact q2
def getO (S : List Dat) (n : Nat) : Option (String × List Str × List Dat) := match S[n]? with
  | some (.obj c fs ds) => some (c, fs, ds)
  | _ => none
theorem getO_is {S : List Dat} {n : Nat} {c : String} {fs : List Str} {ds : List Dat} (h : getO S n = some (c, fs, ds)) : S[n]? = some (.obj c fs ds) := by
  unfold getO at h
  split at h
  · cases h; assumption
  · cases h
/-- x.f, x an instance of the class c -/
def dFldLo (c : String) (f : Str) (d : Dat) : M Dat := match d with
  | .loc n => fun S => (M.opt (getO S n) >>= fun o => M.need (decide (o.1 = c)) >>= fun _ => M.opt (lkD f o.2.1 o.2.2)) S
  | _ => M.no
theorem j_fldLo {c : String} {f : Str} {fs : List Str} (T : ClsT Z c fs) (hf : f ∈ fs) (h : JD Z Er O ta m) : JD Z Er O (tFld Z.K ta f) (xUn (dFldLo c f) m) := fun σ H p ρ S Q hE hS q =>
  h σ H p ρ S _ hE hS ((q.bnd xE).mono fun d S1 H1 p1 e1 s1 q1 v hv => by
    cases d with
    | loc n =>
      have q2 : Post Z Er ExtE ((M.opt (getO S1 n) >>= fun o => M.need (decide (o.1 = c)) >>= fun _ => M.opt (lkD f o.2.1 o.2.2)) S1) H1 p1 _ := q1
      obtain ⟨⟨c', gs, ds⟩, eo, q2⟩ := q2.opt
      obtain ⟨ec, q3⟩ := Post.need q2
      have ec := of_decide_eq_true ec
      have ec : c' = c := ec
      subst ec
      obtain ⟨x, ex, k⟩ := opt_pure xE q3 s1
      obtain ⟨a, rfl, ha⟩ := isD_loc.mp hv
      obtain ⟨dx, vs, g1, hl, h2⟩ := s1.at_ n a _ ha (getO_is eo)
      obtain ⟨w, e1, e2⟩ := lk_rel h2 ex
      exact ⟨a, _, dx, _, w, rfl, g1, T.cl, T.no f hf, e1, k w e2⟩
    | _ => exact (bad_no (S := S1) q1).elim)
/-- self.f = e, self a shared place -/
def setF (n : Nat) (c : String) (f : Str) (x : Dat) (ρ : Env) : M Flow := fun S => (M.opt (getO S n) >>= fun o => M.need (decide (o.1 = c) && decide (o.2.1.length < 1000)) >>= fun _ => fun S => .ok (.nx ρ) (S.set n (.obj o.1 (putN f o.2.1) (putV f x o.2.1 o.2.2)))) S
def dLoc : Dat → Option Nat
  | .loc n => some n
  | _ => none
theorem dLoc_is {d : Dat} {n : Nat} (h : dLoc d = some n) : d = .loc n := by
  cases d <;> first | (cases h; rfl) | cases h
def sSetFL (c : String) (f : Str) (o a : Env → M Dat) (ρ : Env) : M Flow := a ρ >>= fun x => o ρ >>= fun y => M.opt (dLoc y) >>= fun n => setF n c f x ρ
theorem loc_ext {H : Hp} {p : Pl} {a : Addr} {o : HO} (ma : a ∈ p.α) : Ext H p (L2.upd H a o) p := ⟨⟨[], by simp⟩, ⟨[], by simp⟩, rfl, fun b u h n _ => by rw [upd_ne fun z => n (by rw [z]; exact ma)]; exact h, fun b h => by
  by_cases c : b = a
  · rw [c, upd_same]; exact nofun
  · rw [upd_ne c]; exact h⟩
theorem js_setFL {c : String} {f : Str} {fs : List Str} (T : ClsT Z c fs) (hf : f ∈ fs) (ho : JD Z Er O ta m1) (h : JD Z Er O te m) : JS Z Er O (sFld Z.K ta te f) (sSetFL c f m1 m) := fun σ H p ρ S D hE hS q =>
  h σ H p ρ S _ hE hS (q.bndE.mono fun d S1 H1 p1 e1 s1 q1 v hv => ho σ H1 p1 ρ S1 _ (hE.ext e1 hS) s1 (q1.bndE.mono fun o S2 H2 p2 e2 s2 q2 w hw => by
    obtain ⟨n, en, q2⟩ := Post.opt q2
    rw [dLoc_is en] at hw
    obtain ⟨a, rfl, ha⟩ := isD_loc.mp hw
    have q3 : Post Z Er Ext ((M.opt (getO S2 n) >>= fun o => M.need (decide (o.1 = c) && decide (o.2.1.length < 1000)) >>= fun _ => fun S => .ok (Flow.nx ρ) (S.set n (.obj o.1 (putN f o.2.1) (putV f d o.2.1 o.2.2)))) S2) H2 p2 _ := q2
    obtain ⟨⟨c', gs, ds⟩, eo, q3⟩ := Post.opt q3
    obtain ⟨ec, q4⟩ := Post.need q3
    simp only [Bool.and_eq_true, decide_eq_true_eq] at ec
    obtain ⟨ec, few⟩ := ec
    subst ec
    obtain ⟨dx, vs, g1, hl, g2⟩ := s2.at_ n a _ ha (getO_is eo)
    refine ⟨a, _, dx, _, rfl, g1, T.cl, T.no f hf, by rw [List.length_zip, ← hl, Nat.min_self]; exact few, ?_⟩
    obtain ⟨ws, k1, k2, k3⟩ := put_rel (f := f) (hv.ext e2.s) hl g2
    rw [k1]
    obtain ⟨e3, s3⟩ := loc_put (o := .ins (Z.κ c') dx ((putN f gs).zip ws)) (d := .obj c' (putN f gs) (putV f d gs ds)) s2 ha ⟨dx, ws, upd_same, k2, k3.ext (loc_ext (List.mem_of_getElem? ha))⟩
    exact q4 _ _ e3.s s3 σ (((hE.ext e1 hS).ext e2 s1).ext e3 s2)))
/-- an instance of the class c -/
def isO (c : String) (d : Dat) : M Unit := match d with
  | .loc n => fun S => (M.opt (getO S n) >>= fun o => M.need (decide (o.1 = c))) S
  | _ => M.no
theorem isO_is {α : Type} {X : XR} {c : String} {d : Dat} {mm : M α} {S : List Dat} {H : Hp} {p : Pl} {C : α → List Dat → Hp → Pl → Prop} {v : V} (s : IsS Z H p S) (hv : IsD Z H p v d) (q : Post Z Er X ((isO c d >>= fun _ => mm) S) H p C) :
    (∃ a dx fs, v = .ref a ∧ H a = some (.ins (Z.κ c) dx fs)) ∧ Post Z Er X (mm S) H p C := by
  cases d with
  | loc n =>
    rw [m_bind] at q
    have e : isO c (.loc n) S = (M.opt (getO S n) >>= fun o => M.need (decide (o.1 = c))) S := rfl
    rw [e] at q
    cases eo : getO S n with
    | none => rw [eo] at q; exact q.elim
    | some o =>
      obtain ⟨c', gs, ds⟩ := o
      rw [eo] at q
      have e2 : (M.opt (some (c', gs, ds)) >>= fun o : String × List Str × List Dat => M.need (decide (o.1 = c))) S = M.need (decide (c' = c)) S := rfl
      rw [e2] at q
      by_cases ec : c' = c
      · subst ec
        rw [decide_eq_true rfl] at q
        obtain ⟨a, rfl, ha⟩ := isD_loc.mp hv
        obtain ⟨dx, vs, g1, hl, g2⟩ := s.at_ n a _ ha (getO_is eo)
        exact ⟨⟨a, dx, _, rfl, g1⟩, q⟩
      · rw [decide_eq_false ec] at q
        exact q.elim
  | _ => exact q.elim
/-- x op y by an own method of the class -/
def dOwn (c : String) (F : List Dat → M Dat) (d e : Dat) : M Dat := isO c d >>= fun _ => isO c e >>= fun _ => calm (F [d, e])
def rOwnI (C : Addr) (sp : Sp) (E : XK) : L2.R2 := fun x y H Q => ∃ a dx fs b dy gs, x = .ref a ∧ y = .ref b ∧ H a = some (.ins C dx fs) ∧ H b = some (.ins C dy gs) ∧ sp [x, y] H Q E
theorem r_own {c : String} {F : List Dat → M Dat} {E : XK} : JRD Z (rOwnI (Z.κ c) (spD Z 2 F) E) (dOwn c F) := fun x y d e Er H p S Q hx hy s q => by
  obtain ⟨⟨a, dx, fs, rfl, ha⟩, q⟩ := isO_is s hx q
  obtain ⟨⟨b, dy, gs, rfl, hb⟩, q⟩ := isO_is s hy q
  exact ⟨a, dx, fs, b, dy, gs, rfl, rfl, ha, hb, call_sp rfl (isDs_cons.mpr ⟨_, _, rfl, hx, .one hy⟩) s q⟩
/-- isinstance(x, c), x an instance of the class c -/
structure InsT (Z : Cz) (c : String) : Prop where
  cl : Cls Z.K (Z.κ c)
  ha : PySem.W.findIn Z.K (.ref (Z.κ c)) "__class__" = some (some (.builtin "object.__class__"))
  hn : PySem.W.specialIn Z.K (.builtin "object.__class__") "__get__" = some (some (.builtin "getset_descriptor.__get__"))
  htk : PySem.W.takesIn Z.K (.builtin "object.__class__") = some true
  hm : PySem.W.mroIn Z.K (Z.κ c) (.type "object") = some true
  me : PySem.W.kitOne Z.K (.ref (Z.κ c)) (.ref (Z.κ c)) = some true
def dIsiO (c : String) (ds : List Dat) : M Dat := match ds with
  | [d, .cls c'] => M.need (decide (c' = c)) >>= fun _ => isO c d >>= fun _ => pure (.bl true)
  | _ => M.no
theorem c_isiO {c : String} (T : InsT Z c) : JC Z (IsDs Z) (IsD Z) (rIsi Z.K) (dIsiO c) := fun x d Er H p S Q hx s q => by
  unfold dIsiO at q
  split at q
  · rename_i d c'
    obtain ⟨ec, q⟩ := q.need
    have ec := of_decide_eq_true ec
    subst ec
    obtain ⟨v, w, rfl, h1, h2⟩ := isDs_two hx
    obtain ⟨⟨a, dx, fs, rfl, ha⟩, q⟩ := isO_is s h1 q
    have hw : w = .ref (Z.κ c') := by unfold IsD at h2; exact h2
    subst hw
    exact ⟨.ref a, .ref (Z.κ c'), _, _, true, rfl, .own _, .base (.ins ha T.cl T.ha T.hn T.htk T.hm), T.me, q.pure xE s _ (isD_bl.mpr rfl)⟩
  · exact (bad_no (S := S) q).elim

/-! ### texts, dicts, zip -/
def sT : Dat → Option Str
  | .str x => some x
  | _ => none
theorem sT_is {d : Dat} {x : Str} (h : sT d = some x) : d = .str x := by cases d <;> first | (cases h; rfl) | cases h
def dM0' (f : Str → Bool) (d : Dat) : M Dat := M.opt (sT d) >>= fun x => pure (.bl (f x))
theorem j_m0 {r : V → List V → Hp → VK → Prop} {f : Str → Bool} (hr : ∀ x H (Q : VK), Q (.bl (f x)) H → r (.str x) [] H Q) (h : JD Z Er O ta m) : JD Z Er O (tM0 r ta) (xUn (dM0' f) m) := fun σ H p ρ S Q hE hS q =>
  h σ H p ρ S _ hE hS ((q.bnd xE).mono fun d S1 H1 p1 e1 s1 q1 v hv => by
    obtain ⟨x, ex, q1⟩ := Post.opt q1
    rw [sT_is ex] at hv
    rw [isD_str.mp hv]
    exact ⟨⟨x, rfl⟩, hr x H1 Q (q1.pure xE s1 _ (isD_bl.mpr rfl))⟩)
/-- d[k] of a dict -/
def lkK (k : Key) : List Key → List Dat → Option Dat
  | g :: gs, d :: ds => if decide (g = k) = true then some d else lkK k gs ds
  | _, _ => none
def keyD : Dat → Option Key
  | .int i => some (.inl i)
  | .str x => some (.inr x)
  | _ => none
theorem lkK_rel {H : Hp} {p : Pl} {k : Key} : ∀ {gs : List Key} {ds : List Dat} {vs : List V} {d : Dat}, IsDs Z H p vs ds → lkK k gs ds = some d → ∃ v, valV (gs.zip vs) k = some v ∧ IsD Z H p v d
  | [], ds, _, d, _, e => by cases ds <;> cases e
  | g :: gs, [], _, d, h, e => by cases e
  | g :: gs, c :: ds, _, d, h, e => by
    obtain ⟨v, r, rfl, h1, h2⟩ := isDs_cons.mp h
    unfold lkK at e
    rw [List.zip_cons_cons]
    by_cases q : g = k
    · rw [if_pos (decide_eq_true q)] at e
      cases e
      exact ⟨v, valV_pos q, h1⟩
    · rw [if_neg (by rw [decide_eq_false q]; exact Bool.false_ne_true)] at e
      obtain ⟨w, e1, e2⟩ := lkK_rel h2 e
      refine ⟨w, ?_, e2⟩
      unfold valV at e1 ⊢
      rw [List.find?_cons, show decide (((g, v) : Key × V).1 = k) = false from decide_eq_false q]
      exact e1
theorem lkK_none {k : Key} : ∀ {gs : List Key} {ds : List Dat} {vs : List V}, gs.length = vs.length → vs.length = ds.length → lkK k gs ds = none → valV (gs.zip vs) k = none
  | [], _, _, _, _, _ => rfl
  | g :: gs, [], vs, h1, h2, _ => by rw [h2] at h1; cases h1
  | g :: gs, c :: ds, [], h1, h2, _ => by cases h1
  | g :: gs, c :: ds, v :: vs, h1, h2, e => by
    unfold lkK at e
    by_cases q : g = k
    · rw [if_pos (decide_eq_true q)] at e; cases e
    · rw [if_neg (by rw [decide_eq_false q]; exact Bool.false_ne_true)] at e
      have := lkK_none (k := k) (Nat.succ.inj h1) (Nat.succ.inj h2) e
      unfold valV at this ⊢
      rw [List.zip_cons_cons, List.find?_cons, show decide (((g, v) : Key × V).1 = k) = false from decide_eq_false q]
      exact this
theorem keyD_is {H : Hp} {p : Pl} {v : V} {d : Dat} {k : Key} (h : IsD Z H p v d) (e : keyD d = some k) : v = kV k := by
  cases d with
  | int i => cases e; exact isD_int.mp h
  | str x => cases e; exact isD_str.mp h
  | _ => cases e
def dDGet (d e : Dat) : M Dat := match d with
  | .dic ks ds => M.opt (keyD e) >>= fun k => M.opt (lkK k ks ds)
  | _ => M.no
def xDGet (a b : Env → M Dat) (ρ : Env) : M Dat := a ρ >>= fun x => b ρ >>= fun y => dDGet x y
theorem j_dget (ha : JW Z Er O ta m1) (hb : JD Z Er O tb m2) : JD Z Er O (tDGet ta tb) (xDGet m1 m2) := fun σ H p ρ S Q hE hS q =>
  ha σ H p ρ S _ hE hS ((q.bnd xE).mono fun d S1 H1 p1 e1 s1 q1 v hv => hb σ H1 p1 ρ S1 _ (hE.ext e1 hS) s1 ((q1.bnd xE).mono fun e S2 H2 p2 e2 s2 q2 w hw => by
    cases d with
    | dic ks ds =>
      obtain ⟨k, ek, q2⟩ := Post.opt q2
      obtain ⟨x, ex, kk⟩ := opt_pure xE q2 s2
      obtain ⟨a, vs, rfl, h1, hl, h2⟩ := upW.up e2 s1 hv
      obtain ⟨u, g1, g2⟩ := lkK_rel h2 ex
      exact ⟨a, u, rfl, .inl ⟨_, k, .inl h1.1, keyD_is hw ek, g1.symm⟩, kk u g2⟩
    | _ => exact (bad_no (S := S2) q2).elim))
def dDIn (neg : Bool) (e d : Dat) : M Dat := match d with
  | .dic ks ds => M.opt (keyD e) >>= fun k => pure (.bl (neg != (lkK k ks ds).isSome))
  | _ => M.no
def xDIn (neg : Bool) (a b : Env → M Dat) (ρ : Env) : M Dat := a ρ >>= fun x => b ρ >>= fun y => dDIn neg x y
theorem dget_of {H : Hp} {p : Pl} {ks : List Key} {ds : List Dat} {v w : V} {e : Dat} {k : Key} (hv : IsW Z H p v (.dic ks ds)) (hw : IsD Z H p w e) (ek : keyD e = some k) : ∃ a o, v = .ref a ∧ DGet H a w o ∧ o.isSome = (lkK k ks ds).isSome := by
  obtain ⟨a, vs, rfl, h1, hl, h2⟩ := hv
  refine ⟨a, _, rfl, .inl ⟨_, k, .inl h1.1, keyD_is hw ek, rfl⟩, ?_⟩
  cases z : lkK k ks ds with
  | none => rw [lkK_none hl h2.len z]; rfl
  | some d => obtain ⟨u, g1, _⟩ := lkK_rel h2 z; rw [g1]; rfl
theorem j_din (hb : JD Z Er O tb m2) (ha : JW Z Er O ta m1) : JD Z Er O (tDIn tb ta) (xDIn false m2 m1) := fun σ H p ρ S Q hE hS q =>
  hb σ H p ρ S _ hE hS ((q.bnd xE).mono fun e S1 H1 p1 e1 s1 q1 w hw => ha σ H1 p1 ρ S1 _ (hE.ext e1 hS) s1 ((q1.bnd xE).mono fun d S2 H2 p2 e2 s2 q2 v hv => by
    cases d with
    | dic ks ds =>
      obtain ⟨k, ek, q2⟩ := Post.opt q2
      obtain ⟨a, o, rfl, g1, g2⟩ := dget_of hv (hw.ext e2.s) ek
      refine ⟨a, o, rfl, g1, ?_⟩
      rw [g2]
      have z := q2.pure xE s2
      rw [Bool.false_bne] at z
      exact z _ (isD_bl.mpr rfl)
    | _ => exact (bad_no (S := S2) q2).elim))
theorem j_dnotin (hb : JD Z Er O tb m2) (ha : JW Z Er O ta m1) : JD Z Er O (tDNotIn tb ta) (xDIn true m2 m1) := fun σ H p ρ S Q hE hS q =>
  hb σ H p ρ S _ hE hS ((q.bnd xE).mono fun e S1 H1 p1 e1 s1 q1 w hw => ha σ H1 p1 ρ S1 _ (hE.ext e1 hS) s1 ((q1.bnd xE).mono fun d S2 H2 p2 e2 s2 q2 v hv => by
    cases d with
    | dic ks ds =>
      obtain ⟨k, ek, q2⟩ := Post.opt q2
      obtain ⟨a, o, rfl, g1, g2⟩ := dget_of hv (hw.ext e2.s) ek
      refine ⟨a, o, rfl, g1, ?_⟩
      rw [g2]
      have z := q2.pure xE s2
      rw [Bool.true_bne] at z
      exact z _ (isD_bl.mpr rfl)
    | _ => exact (bad_no (S := S2) q2).elim))
/-- zip(a, b): two lists, two tuples -/
def zipD (xs ys : List Dat) : List Dat := (xs.zip ys).map fun q => .tup [q.1, q.2]
def iZip (l : Env → M (List Dat)) (ρ : Env) : M (List Dat) := l ρ >>= fun ds => match ds with
  | [.lst xs, .lst ys] => pure (zipD xs ys)
  | [.tup xs, .tup ys] => pure (zipD xs ys)
  | _ => M.no
theorem zip_len {xs ys : List Dat} : (zipD xs ys).length = min xs.length ys.length := by unfold zipD; rw [List.length_map, List.length_zip]
theorem zip_at {xs ys : List Dat} {i : Nat} (h1 : i < xs.length) (h2 : i < ys.length) : (zipD xs ys)[i]? = some (.tup [xs[i], ys[i]]) := by
  unfold zipD
  rw [List.getElem?_map, List.getElem?_zip_eq_some (z := (xs[i], ys[i])) |>.mpr ⟨List.getElem?_eq_getElem h1, List.getElem?_eq_getElem h2⟩]
  rfl
theorem walks_zipT {X : XR} (x : XOk X) {H : Hp} {p : Pl} {a b : Addr} {vs ws : List V} {xs ys : List Dat} (ha : TupAt Z H p a vs) (h1 : IsDs Z H p vs xs) (hb : TupAt Z H p b ws) (h2 : IsDs Z H p ws ys) : Walks Z X (RZ.ItzT Z.K a b) (zipD xs ys) H p := fun H1 p1 S1 i e s => by
  have ha1 := ha.ext (x.s e)
  have hb1 := hb.ext (x.s e)
  have g1 := h1.ext (x.s e)
  have g2 := h2.ext (x.s e)
  rw [zip_len]
  refine ⟨fun lt => ?_, fun le => ⟨vs, ws, ha1.sq, hb1.sq, by rw [g1.len, g2.len]; omega⟩⟩
  have l1 : i < xs.length := by omega
  have l2 : i < ys.length := by omega
  obtain ⟨v, e1, k1⟩ := g1.get (List.getElem?_eq_getElem l1)
  obtain ⟨w, e2, k2⟩ := g2.get (List.getElem?_eq_getElem l2)
  refine ⟨⟨vs, ws, v, w, ha1.sq, hb1.sq, e1, e2⟩, fun y H' ⟨t, v', w', ev, nt, eH, f1, f2⟩ => ?_⟩
  subst ev eH
  have z1 := f1 vs ha1.sq
  have z2 := f2 ws hb1.sq
  rw [e1] at z1
  rw [e2] at z2
  cases z1
  cases z2
  exact ⟨same_new nt, _, zip_at l1 l2, new_tup s nt (isDs_cons.mpr ⟨_, _, rfl, k1, .one k2⟩)⟩
theorem walks_zipL {X : XR} (x : XOk X) {H : Hp} {p : Pl} {a b : Addr} {vs ws : List V} {xs ys : List Dat} (ha : LstAt Z H p a vs) (h1 : IsDs Z H p vs xs) (hb : LstAt Z H p b ws) (h2 : IsDs Z H p ws ys) : Walks Z X (Itz Z.K a b) (zipD xs ys) H p := fun H1 p1 S1 i e s => by
  have ha1 := ha.ext (x.s e)
  have hb1 := hb.ext (x.s e)
  have g1 := h1.ext (x.s e)
  have g2 := h2.ext (x.s e)
  rw [zip_len]
  refine ⟨fun lt => ?_, fun le => ⟨vs, ws, ha1.sq, hb1.sq, by rw [g1.len, g2.len]; omega⟩⟩
  have l1 : i < xs.length := by omega
  have l2 : i < ys.length := by omega
  obtain ⟨v, e1, k1⟩ := g1.get (List.getElem?_eq_getElem l1)
  obtain ⟨w, e2, k2⟩ := g2.get (List.getElem?_eq_getElem l2)
  refine ⟨⟨vs, ws, v, w, ha1.sq, hb1.sq, e1, e2⟩, fun y H' ⟨t, v', w', ev, nt, eH, f1, f2⟩ => ?_⟩
  subst ev eH
  have z1 := f1 vs ha1.sq
  have z2 := f2 ws hb1.sq
  rw [e1] at z1
  rw [e2] at z2
  cases z1
  cases z2
  exact ⟨same_new nt, _, zip_at l1 l2, new_tup s nt (isDs_cons.mpr ⟨_, _, rfl, k1, .one k2⟩)⟩
theorem ji_zip {X : XR} (x : XOk X) (hl : JA Z Er O tl ml) : JI Z Er O X (RZ.iZipA Z.K tl) (iZip ml) := fun σ H p ρ S R hE hS q =>
  hl σ H p ρ S _ hE hS ((q.bnd xE).mono fun ds S1 H1 p1 e1 s1 q1 vs hv => by
    split at q1
    · obtain ⟨v, w, rfl, h1, h2⟩ := isDs_two hv
      obtain ⟨a, us, rfl, h3, h4⟩ := isD_lst.mp h1
      obtain ⟨b, ws, rfl, h5, h6⟩ := isD_lst.mp h2
      exact ⟨a, b, us, ws, rfl, .inl ⟨h3.sq, h5.sq, q1.pure xE s1 _ (walks_zipL x h3 h4 h5 h6)⟩⟩
    · obtain ⟨v, w, rfl, h1, h2⟩ := isDs_two hv
      obtain ⟨a, us, rfl, h3, h4⟩ := isD_tup.mp h1
      obtain ⟨b, ws, rfl, h5, h6⟩ := isD_tup.mp h2
      exact ⟨a, b, us, ws, rfl, .inr ⟨h3.sq, h5.sq, q1.pure xE s1 _ (walks_zipT x h3 h4 h5 h6)⟩⟩
    · exact (bad_no (S := S1) q1).elim)
/-- a dict display -/
def xPairs : List ((Env → M Dat) × (Env → M Dat)) → Env → M (List (Dat × Dat))
  | [], _ => pure []
  | (a, b) :: r, ρ => a ρ >>= fun x => b ρ >>= fun y => xPairs r ρ >>= fun l => pure ((x, y) :: l)
def keysD : List (Dat × Dat) → Option (List Key)
  | [] => some []
  | (a, _) :: r => (keyD a).bind fun k => (keysD r).map (k :: ·)
def noDup : List Key → Bool
  | [] => true
  | k :: r => !r.any (fun g => decide (g = k)) && noDup r
def xDisp (l : List ((Env → M Dat) × (Env → M Dat))) (ρ : Env) : M Dat := xPairs l ρ >>= fun ps => M.opt (keysD ps) >>= fun ks => M.need (noDup ks && decide (ks.length ≤ 15)) >>= fun _ => pure (.dic ks (ps.map (·.2)))
end
end Zd

namespace Zd
open PySem PySem.Spec PyProof.Rows L2
/-! ### rules that the layer lacks -/
section
variable {X : Cx} {a b c d e o : Expr} {pos apos cpos : Pos} {ta tb tc td ty : TE}
def tChain3 (r r' r'' : L2.R2) (ta tb tc td : TE) : TE := fun σ H Q => ta σ H fun x H1 => tb σ H1 fun y H2 => r x y H2 fun z H3 => ∃ k, z = .bl k ∧
  (if k = true then tc σ H3 fun x2 H4 => r' y x2 H4 fun z2 H5 => ∃ k2, z2 = .bl k2 ∧ (if k2 = true then td σ H5 fun x3 H6 => r'' x2 x3 H6 Q else Q (.bl false) H5) else Q (.bl false) H3)
theorem pe_chain3 {p1 p2 p3 : CmpOp} {r r' r'' : L2.R2} (o1 : OpR X (compareOp p1) r) (o2 : OpR X (compareOp p2) r') (o3 : OpR X (compareOp p3) r'') (ea : PE X a ta) (eb : PE X b tb) (ec : PE X c tc) (ed : PE X d td)
    (nm : lastMarks [p1, p2, p3] [b, c, d] = false := by with_unfolding_all rfl) : PE X (.Compare a [p1, p2, p3] [b, c, d] pos) (tChain3 r r' r'' ta tb tc td) := by
  constructor
  intro pn s σ H Q I g
  refine Compare_chain (thn (ea.run pn s σ H _ I g) fun va s1 ⟨x, H1, I1, ra, g1⟩ => ?_) nm
  refine chain_link (thn (eb.run pn s1 σ H1 _ I1 g1) fun vb s2 ⟨y, H2, I2, rb, g2⟩ => thn (o1 pn s2 σ H2 x y va vb _ I2 ra rb g2) fun vz s3 ⟨z, H3, I3, rz, k, ez, g3⟩ => ?_)
  subst ez
  cases rz
  refine wpAny_truthy_bool ?_
  cases k with
  | false => exact ite_ff ⟨.bl false, H3, I3, rfl, g3⟩
  | true =>
    refine ite_tt (chain_link (thn (ec.run pn s3 σ H3 _ I3 g3) fun vc s4 ⟨x2, H4, I4, rc, g4⟩ => thn (o2 pn s4 σ H4 y x2 vb vc _ I4 rb rc g4) fun vz2 s5 ⟨z2, H5, I5, rz2, k2, ez2, g5⟩ => ?_))
    subst ez2
    cases rz2
    refine wpAny_truthy_bool ?_
    cases k2 with
    | false => exact ite_ff ⟨.bl false, H5, I5, rfl, g5⟩
    | true => exact ite_tt (chain_last (thn (ed.run pn s5 σ H5 _ I5 g5) fun vd s6 ⟨x3, H6, I6, rd, g6⟩ => o3 pn s6 σ H6 x2 x3 vc vd Q I6 rc rd g6))
/-- d.get(k), d a dict of the module with text keys -/
structure KTab (K : PySem.W.Frag) (w : World) (a : Addr) : Prop where
  ex : ∃ (es : Array DictEntry) (n : Nat), KDict K w a es n
def tKGet (K : PySem.W.Frag) (w : World) (a : Addr) (td ty : TE) : TE := fun σ H Q => td σ H fun x H1 => x = .ref a ∧ ty σ H1 fun y H2 => ∃ (z : Str) (r : Option Value), y = .str z ∧ PySem.W.nsIn K a z = some r ∧ (∀ u, r = some u → ∃ v, RelV v u ∧ Q v H2) ∧ (r = none → Q .non H2)
theorem pe_kget {D : Addr} (kt : KTab X.K X.w D) (ho : PE X o td) (he : PE X e ty) (m : M1 X o "get" apos e cpos) : PE X (.Call (.Attribute o "get" apos) [e] [] cpos) (tKGet X.K X.w D td ty) := by
  obtain ⟨es, n, kd⟩ := kt.ex
  constructor
  intro pn s σ H Q I g
  refine wpAny_Call_method m.base m.few m.line PySem.F.plainAttrs_dict PySem.F.slot_dict_get PySem.F.type_dict_get (thn (ho.run pn s σ H _ I g) fun vo s1 ⟨x, H1, I1, ro, ex, g1⟩ => ?_)
  subst ex
  cases (show vo = Value.ref D from ro)
  have mp := PySem.W.mapOf_K (prog := X.prog) (w := X.w) I1.kIn kd.at_ kd.lit
  refine ⟨mp.typeIs, fun b q => ?_, ?_⟩
  · cases q
    exact ⟨_, I1.kIn _ _ kd.at_, rfl⟩
  rw [m.trees]
  refine PySem.wpAny_dict_get1 (knd := PySem.strKind X.prog X.w) kd.low (thn (he.run pn s1 σ H1 _ I1 g1) fun vk s2 ⟨y, H2, I2, ry, z, r, ey, en, q1, q2⟩ => ?_)
  subst ey
  obtain ⟨t, rfl⟩ := (show ∃ t, vk = Value.str z t from ry)
  refine ⟨z, _, PySem.strKind_is X.prog X.w z t, PySem.W.mapOf_K (prog := X.prog) (w := X.w) I2.kIn kd.at_ kd.lit, ?_⟩
  show EP X pn σ Q ((findBy Value.isStrOf es z).getD .none) _
  rw [PySem.W.find_K kd.at_ en]
  cases r with
  | none => exact ⟨.non, H2, I2.tok _, rfl, q2 rfl⟩
  | some u =>
    obtain ⟨v, rv, qv⟩ := q1 u rfl
    exact ⟨v, H2, I2.tok _, rv, qv⟩
/-- repr of data, of the empty dict too -/
def rRepr0 (K : PySem.W.Frag) : List V → Hp → VK → Prop := fun xs H Q => Zg.rReprD K xs H Q ∨ ∃ p, xs = [.ref p] ∧ H p = some (.dK []) ∧ Q (.str "{}") H
end
end Zd

namespace Zd
open PySem PySem.Spec PyProof.Rows L2

/-! ### zip, enumerate of lists, tuples, texts -/
inductive Src where
  | li (a : Addr) | tu (a : Addr) | tx (x : Str)
def Src.v : Src → V
  | .li a => .ref a
  | .tu a => .ref a
  | .tx x => .str x
def Src.has (K : PySem.W.Frag) (H : Hp) (i : Nat) (v : V) : Src → Prop
  | .li a => ∃ xs, SqL K H a xs ∧ xs[i]? = some v
  | .tu a => ∃ xs, SqT K H a xs ∧ xs[i]? = some v
  | .tx x => ∃ c, x.cps[i]? = some c ∧ v = .str ⟨#[c]⟩
def Src.len (K : PySem.W.Frag) (H : Hp) (n : Nat) : Src → Prop
  | .li a => ∃ xs, SqL K H a xs ∧ xs.length = n
  | .tu a => ∃ xs, SqT K H a xs ∧ xs.length = n
  | .tx x => x.cps.size = n
def Src.fp (it : Addr) : Src → List Addr
  | .li a => [it, a]
  | .tu a => [it, a]
  | .tx _ => [it]
def Src.off (c : Addr) : Src → Prop
  | .li a => a ≠ c
  | .tu a => a ≠ c
  | .tx _ => True
/-- its iterator at the place i -/
def Src.itr (it : Addr) (i : Nat) (h : Heap) : Src → Prop
  | .li a => h.IsListIter it a i
  | .tu a => h.IsTupleIter it a i
  | .tx x => ∃ t, h.IsStrIter it (strIterType x) x t i
theorem Src.itr_keep {it : Addr} {i : Nat} {h h' : Heap} : ∀ {s : Src}, s.itr it i h → (∀ o, h.get? it = some o → h'.get? it = some o) → s.itr it i h'
  | .li a, q, k => Heap.IsListIter.at q k
  | .tu a, q, k => Heap.IsTupleIter.at q k
  | .tx x, ⟨t, o, e, c, d⟩, k => ⟨t, o, k o e, c, d⟩
theorem Src.itr_obj {it : Addr} {i : Nat} {h : Heap} : ∀ {s : Src}, s.itr it i h → ∃ o, h.get? it = some o ∧ ∀ v, o.data ≠ .cell v
  | .li a, ⟨o, e, c, d⟩ => ⟨o, e, fun v q => by rw [d] at q; cases q⟩
  | .tu a, ⟨o, e, c, d⟩ => ⟨o, e, fun v q => by rw [d] at q; cases q⟩
  | .tx x, ⟨t, o, e, c, d⟩ => ⟨o, e, fun v q => by rw [d] at q; cases q⟩
theorem Src.mem {it : Addr} : ∀ {s : Src}, it ∈ s.fp it
  | .li a => List.mem_cons_self
  | .tu a => List.mem_cons_self
  | .tx x => List.mem_cons_self
theorem Src.nofp {it c : Addr} : ∀ {s : Src}, c ≠ it → s.off c → c ∉ s.fp it
  | .li a, h, k, m => by
    rcases List.mem_cons.mp m with e | e
    · exact h e
    · exact k (List.mem_singleton.mp e).symm
  | .tu a, h, k, m => by
    rcases List.mem_cons.mp m with e | e
    · exact h e
    · exact k (List.mem_singleton.mp e).symm
  | .tx x, h, k, m => h (List.mem_singleton.mp m)
/-- what it draws, as things stand -/
structure Src.Dr (P : Program) (w : World) (A : Around) (K : PySem.W.Frag) (H : Hp) (s : Src) (it : Addr) (i : Nat) (h : Heap) (n : Nat) : Prop where
  dr : ∃ (Pv : Nat → Value → Prop) (St : Nat → Heap → Prop), Draws P w A it (s.fp it) n Pv St ∧ St i h ∧ (∀ u, Pv i u → ∃ x, RelV x u ∧ s.has K H i x) ∧ ∀ j h', St j h' → s.itr it j h'
theorem Src.dr {X : Cx} {pins : List (Addr × Obj)} {σ : L2.St} {H : Hp} {sh : Shared} (I : Inv X pins σ H sh) (hc : X.calm = true) {it : Addr} {i n : Nat} : ∀ {s : Src}, s.len X.K H n → s.itr it i sh.heap → s.off it → Src.Dr X.prog X.w X.A.in1 X.K H s it i sh.heap n
  | .li a, ⟨xs, hq, hl⟩, st, ho => by
    obtain ⟨its, rv, p, hz⟩ := I.list hq
    have e : its.toArray.size = n := by rw [List.size_toArray, ← rv.length, hl]
    subst e
    refine ⟨_, _, Draws.list (A := X.A.in1) (I.ok.hd hc) it a ho its.toArray, ⟨st, p.isList⟩, fun u hu => ?_, fun j h' st' => st'.1⟩
    have hu : its[i]? = some u := by simpa using hu
    have lt : i < xs.length := by rw [rv.length]; exact (List.getElem?_eq_some_iff.mp hu).1
    obtain ⟨u', h1, h2⟩ := rv.get (List.getElem?_eq_getElem lt)
    rw [hu] at h1
    cases h1
    exact ⟨_, h2, xs, hq, List.getElem?_eq_getElem lt⟩
  | .tu a, ⟨xs, hq, hl⟩, st, ho => by
    obtain ⟨its, rv, p, hz⟩ := I.tuple hq
    have e : its.toArray.size = n := by rw [List.size_toArray, ← rv.length, hl]
    subst e
    refine ⟨_, _, Draws.tuple (A := X.A.in1) (I.ok.hd hc) it a ho its.toArray, ⟨st, p⟩, fun u hu => ?_, fun j h' st' => st'.1⟩
    have hu : its[i]? = some u := by simpa using hu
    have lt : i < xs.length := by rw [rv.length]; exact (List.getElem?_eq_some_iff.mp hu).1
    obtain ⟨u', h1, h2⟩ := rv.get (List.getElem?_eq_getElem lt)
    rw [hu] at h1
    cases h1
    exact ⟨_, h2, xs, hq, List.getElem?_eq_getElem lt⟩
  | .tx x, hl, ⟨t, st⟩, ho => by
    have e : x.cps.size = n := hl
    subst e
    refine ⟨_, _, Draws.text (A := X.A.in1) (I.ok.hd hc) it x t, st, fun u hu => ?_, fun j h' st' => ⟨t, st'⟩⟩
    obtain ⟨c, v, h1, h2⟩ := hu
    exact ⟨.str ⟨#[c]⟩, ⟨v, h2⟩, c, h1, rfl⟩
theorem Src.inj {X : Cx} {pins : List (Addr × Obj)} {σ : L2.St} {H : Hp} {sh : Shared} (I : Inv X pins σ H sh) {i : Nat} {x y : V} : ∀ {s : Src}, s.has X.K H i x → s.has X.K H i y → x = y
  | .li a, ⟨xs, h1, h2⟩, ⟨ys, k1, k2⟩ => by
    rw [I.list_inj h1 k1, k2] at h2
    exact (Option.some.inj h2).symm
  | .tu a, ⟨xs, h1, h2⟩, ⟨ys, k1, k2⟩ => by
    rw [I.tuple_inj h1 k1, k2] at h2
    exact (Option.some.inj h2).symm
  | .tx x, ⟨c, h1, h2⟩, ⟨d, k1, k2⟩ => by
    rw [h1] at k1
    cases k1
    rw [h2, k2]
def ItzG (K : PySem.W.Frag) (s1 s2 : Src) : It :=
  ⟨fun i H => ∃ n1 n2, s1.len K H n1 ∧ s2.len K H n2 ∧ i < n1 ∧ i < n2,
    fun i H v H' => ∃ T x y, v = .ref T ∧ H T = none ∧ H' = upd H T (.tup [x, y]) ∧ (∀ z, s1.has K H i z → x = z) ∧ ∀ z, s2.has K H i z → y = z,
    fun i H => ∃ n1 n2, s1.len K H n1 ∧ s2.len K H n2 ∧ i ≤ n1 ∧ i ≤ n2 ∧ (i = n1 ∨ i = n2)⟩
structure SepG (s1 s2 : Src) (z TI TO i1 i2 : Addr) : Prop where
  TIz : TI ≠ z
  TOz : TO ≠ z
  i1z : i1 ≠ z
  i2z : i2 ≠ z
  TITO : TI ≠ TO
  TIi1 : TI ≠ i1
  TIi2 : TI ≠ i2
  TOi1 : TO ≠ i1
  TOi2 : TO ≠ i2
  i12 : i1 ≠ i2
  a1 : ∀ c, c = z ∨ c = TO ∨ c = i1 ∨ c = i2 → s1.off c
  a2 : ∀ c, c = z ∨ c = TO ∨ c = i1 ∨ c = i2 → s2.off c
theorem SepG.sep {s1 s2 : Src} {z TI TO i1 i2 : Addr} (D : SepG s1 s2 z TI TO i1 i2) : ZipSep2 z TI TO i1 i2 (s1.fp i1) (s2.fp i2) :=
  { TIz := D.TIz, TOz := D.TOz, TITO := D.TITO, TIi1 := D.TIi1, mem1 := Src.mem, zf1 := Src.nofp (Ne.symm D.i1z) (D.a1 _ (.inl rfl)), Tf1 := Src.nofp D.TOi1 (D.a1 _ (.inr (.inl rfl))),
    TIi2 := D.TIi2, mem2 := Src.mem, zf2 := Src.nofp (Ne.symm D.i2z) (D.a2 _ (.inl rfl)), Tf2 := Src.nofp D.TOi2 (D.a2 _ (.inr (.inl rfl))),
    sep1_2 := Src.nofp D.i12 (D.a2 _ (.inr (.inr (.inl rfl)))), sep2_1 := Src.nofp (Ne.symm D.i12) (D.a1 _ (.inr (.inr (.inr rfl)))) }
theorem turn_zipG {P : Program} {w : World} {K : PySem.W.Frag} {elts : List Expr} {kk : Nat} {tpos : Pos} {s1 s2 : Src} {z TI TO i1 i2 : Addr} (D : SepG s1 s2 z TI TO i1 i2) :
    Turn P w K (.Tuple elts kk tpos) (ItzG K s1 s2) [z, TI, TO, i1, i2] z (fun i h => IsZip h z TI TO .none ∧ IsTupOf2 h TI (.ref i1) (.ref i2) ∧ (∃ x y, IsTupOf2 h TO x y) ∧ s1.itr i1 i h ∧ s2.itr i2 i h) where
  mem := by simp
  obj := fun i h ⟨hz, hTI, ⟨x, y, hTO⟩, h1, h2⟩ c hc => by
    have five : c = z ∨ c = TI ∨ c = TO ∨ c = i1 ∨ c = i2 := by simpa using hc
    rcases five with rfl | rfl | rfl | rfl | rfl
    · exact ⟨_, hz, nofun⟩
    · exact ⟨_, hTI, nofun⟩
    · exact ⟨_, hTO, nofun⟩
    · exact Src.itr_obj h1
    · exact Src.itr_obj h2
  keep := fun i h h' ⟨hz, hTI, ⟨x, y, hTO⟩, h1, h2⟩ k => ⟨k z (by simp) _ hz, k TI (by simp) _ hTI, ⟨x, y, k TO (by simp) _ hTO⟩, Src.itr_keep h1 fun o q => k i1 (by simp) o q, Src.itr_keep h2 fun o q => k i2 (by simp) o q⟩
  item := by
    rintro X rfl rfl rfl hc i pins s σ H E I hf ⟨hz, hTI, ⟨a1, a2, hTO⟩, h1, h2⟩ ⟨n1, n2, l1, l2, lt1, lt2⟩
    obtain ⟨P1, St1, D1, t1, g1, f1⟩ := (Src.dr I hc l1 h1 (D.a1 _ (.inr (.inr (.inl rfl))))).dr
    obtain ⟨P2, St2, D2, t2, g2, f2⟩ := (Src.dr I hc l2 h2 (D.a2 _ (.inr (.inr (.inr rfl))))).dr
    refine wpAny_pyNext_zipD2_item D.sep D1 D2 hz hTI hTO t1 t2 lt1 lt2 fun u1 u2 h' tk p1 p2 z' TO' q1 q2 hT hsz hk => ⟨_, rfl, wpAny_letOwnedTupleGo_zip (s := { s with heap := h', toks := tk }) z' fun h'' z'' sb => ?_⟩
    obtain ⟨x, rx, hx⟩ := g1 u1 p1
    obtain ⟨y, ry, hy⟩ := g2 u2 p2
    have ne : ∀ {c o}, s.heap.get? c = some o → s.heap.objs.size ≠ c := fun e => Nat.ne_of_gt (Heap.lt_size e)
    have sb' : ∀ c, c ≠ z → h''.get? c = h'.get? c := fun c n => sb.2 c n
    have hT2 : h''.get? s.heap.objs.size = some { cls := .type "tuple", data := .seq #[u1, u2] } := (sb' _ (ne hz)).trans hT
    have new : ObjOk X.prog X.w (upd H s.heap.objs.size (.tup [x, y])) h'' s.heap.objs.size (.tup [x, y]) := ⟨show 2 ≤ sizeLine by decide, [u1, u2], .cons rx (.cons ry .nil), ⟨_, hT2, rfl, _, rfl⟩⟩
    have lt : ∀ c ∈ [z, TI, TO, i1, i2], c ≠ s.heap.objs.size := fun c hc' => by
      have five : c = z ∨ c = TI ∨ c = TO ∨ c = i1 ∨ c = i2 := by simpa using hc'
      rcases five with rfl | rfl | rfl | rfl | rfl
      · exact (ne hz).symm
      · exact (ne hTI).symm
      · exact (ne hTO).symm
      · obtain ⟨o, e, _⟩ := Src.itr_obj h1; exact (ne e).symm
      · obtain ⟨o, e, _⟩ := Src.itr_obj h2; exact (ne e).symm
    refine ⟨.ref s.heap.objs.size, _, I.turnedNew (t' := tk) (ch := [z, TI, TO, i1, i2]) (fun c o hb q => (sb' c fun e => hb (by simp [e])).trans (hk c o (fun e => hb (by simp [e])) (fun e => hb (by simp [e])) (fun e => hb (by simp [e])) (fun e => hb (by simp [e])) q)) hf (Nat.le_refl _) new, rfl,
      ⟨_, x, y, rfl, I.hok.fresh (Nat.le_refl _), rfl, fun _ q => Src.inj I hx q, fun _ q => Src.inj I hy q⟩, ⟨z'', (sb' _ D.TIz).trans (hk _ _ D.TIz D.TITO D.TIi1 D.TIi2 hTI), ⟨u1, u2, (sb' _ D.TOz).trans TO'⟩, Src.itr_keep (f1 _ _ q1) fun o q => (sb' _ D.i1z).trans q, Src.itr_keep (f2 _ _ q2) fun o q => (sb' _ D.i2z).trans q⟩, fun c hc' => ?_⟩
    rw [upd_ne (lt c hc')]
    exact (hf c hc').1
  done := by
    rintro X rfl rfl rfl hc i pins s σ H E I hf ⟨hz, hTI, ⟨a1, a2, hTO⟩, h1, h2⟩ ⟨n1, n2, l1, l2, lt1, lt2, en⟩
    obtain ⟨P1, St1, D1, t1, g1, f1⟩ := (Src.dr I hc l1 h1 (D.a1 _ (.inr (.inr (.inl rfl))))).dr
    obtain ⟨P2, St2, D2, t2, g2, f2⟩ := (Src.dr I hc l2 h2 (D.a2 _ (.inr (.inr (.inr rfl))))).dr
    exact wpAny_pyNext_zipD2_end D.sep D1 D2 hz hTI hTO t1 t2 lt1 lt2 en fun h' tk hk => ⟨rfl, I.turnedL (t' := tk) (ch := [z, TI, TO, i1, i2]) (fun c o hb q =>
      hk c o (fun e => hb (by simp [e])) (fun e => hb (by simp [e])) (fun e => hb (by simp [e])) (fun e => hb (by simp [e])) q) hf⟩
  self := fun A i s Q E st h => wpAny_pyIter_zip st.1 h
/-- it begins -/
theorem Src.begins {X : Cx} {pins : List (Addr × Obj)} {σ : L2.St} {H : Hp} {sh : Shared} (I : Inv X pins σ H sh) {u : Value} {n : Nat} : ∀ {s : Src}, s.len X.K H n → RelV s.v u →
    ∃ (o : Obj) (Hb : Heap → Prop), Begins u o Hb ∧ Hb sh.heap ∧ (∀ h' it, h'.get? it = some o → s.itr it 0 h') ∧ ∀ c, sh.heap.objs.size ≤ c → s.off c
  | .li a, ⟨xs, hq, _⟩, r => by
    obtain ⟨its, rv, p, hz⟩ := I.list hq
    cases (show u = Value.ref a from r)
    refine ⟨_, _, begins_list a its.toArray, p.isList, fun h' it e => ⟨_, e, rfl, rfl⟩, fun c le e => ?_⟩
    obtain ⟨o, h1, _⟩ := p.isList
    rw [← e] at le
    exact absurd (Heap.lt_size h1) (Nat.not_lt.mpr le)
  | .tu a, ⟨xs, hq, _⟩, r => by
    obtain ⟨its, rv, p, hz⟩ := I.tuple hq
    cases (show u = Value.ref a from r)
    refine ⟨_, _, begins_tuple a its.toArray, p, fun h' it e => ⟨_, e, rfl, rfl⟩, fun c le e => ?_⟩
    obtain ⟨o, h1, _⟩ := id p
    rw [← e] at le
    exact absurd (Heap.lt_size h1) (Nat.not_lt.mpr le)
  | .tx x, _, r => by
    obtain ⟨t, rfl⟩ := (show ∃ t, u = Value.str x t from r)
    exact ⟨_, _, begins_text x t, trivial, fun h' it e => ⟨t, _, e, rfl, rfl⟩, fun _ _ => trivial⟩
def iZipG (K : PySem.W.Frag) (ta : TA) : TI := fun σ H R => ta σ H fun vs H1 => ∃ (s1 s2 : Src) (n1 n2 : Nat), vs = [s1.v, s2.v] ∧ s1.len K H1 n1 ∧ s2.len K H1 n2 ∧ R (ItzG K s1 s2) H1
theorem pi_zipG {X : Cx} {e e2 : Expr} {ta : TA} {p pos tpos : Pos} {elts : List Expr} {kk : Nat} (hg : Gl X "zip") (hm : X.mg "zip" = none) (ha : PA X [e, e2] ta)
    (hs : starEach [e, e2] X.env = (false, eval e X.env) :: starEach [e2] X.env := by rfl) (hpl : (backTo pos (starEach [e2] X.env)).any (·.1) = false := by rfl) :
    PI X (.Tuple elts kk tpos) (.Call (.Name "zip" p) [e, e2] [] pos) (iZipG X.K ta) := by
  refine ⟨fun pins s σ H R I h => Call_ (ld_blt I hg hm PyProof.Rows.boot_zip (PyProof.Rows.callWith_type1 (thn (ha.run pos pins s σ H _ I h) fun us s1 ⟨vs, H1, I1, r1, s1', s2', n1, n2, ex, l1, l2, q⟩ => ?_) hs hpl))⟩
  subst ex
  cases r1 with
  | cons ra rr =>
    cases rr with
    | cons rb rr =>
      cases rr
      obtain ⟨o1, Hb1, B1, hb1, f1, g1⟩ := Src.begins I1 l1 ra
      obtain ⟨o2, Hb2, B2, hb2, f2, g2⟩ := Src.begins I1 l2 rb
      have le : ∀ k, s1.heap.objs.size ≤ s1.heap.objs.size + k := fun k => Nat.le_add_right _ k
      refine zip_begins2 B1 B2 hb1 hb2 fun h' hz hTI hTO h1 h2 hsz hk => wpAny_pyIter_zip hz ?_
      have D : SepG s1' s2' (s1.heap.objs.size + 4) (s1.heap.objs.size + 2) (s1.heap.objs.size + 3) s1.heap.objs.size (s1.heap.objs.size + 1) :=
        ⟨show (s1.heap.objs.size + 2 : Nat) ≠ s1.heap.objs.size + 4 by omega, show (s1.heap.objs.size + 3 : Nat) ≠ s1.heap.objs.size + 4 by omega, show (s1.heap.objs.size : Nat) ≠ s1.heap.objs.size + 4 by omega, show (s1.heap.objs.size + 1 : Nat) ≠ s1.heap.objs.size + 4 by omega,
          show (s1.heap.objs.size + 2 : Nat) ≠ s1.heap.objs.size + 3 by omega, show (s1.heap.objs.size + 2 : Nat) ≠ s1.heap.objs.size by omega, show (s1.heap.objs.size + 2 : Nat) ≠ s1.heap.objs.size + 1 by omega, show (s1.heap.objs.size + 3 : Nat) ≠ s1.heap.objs.size by omega, show (s1.heap.objs.size + 3 : Nat) ≠ s1.heap.objs.size + 1 by omega, show (s1.heap.objs.size : Nat) ≠ s1.heap.objs.size + 1 by omega,
          fun c hc => g1 c (by rcases hc with rfl | rfl | rfl | rfl <;> first | exact le _ | exact Nat.le_refl _), fun c hc => g2 c (by rcases hc with rfl | rfl | rfl | rfl <;> first | exact le _ | exact Nat.le_refl _)⟩
      refine ⟨_, [s1.heap.objs.size + 4, s1.heap.objs.size + 2, s1.heap.objs.size + 3, s1.heap.objs.size, s1.heap.objs.size + 1], _, _, H1, rfl, I1.kept (t' := s1.toks) hk, turn_zipG D, ⟨hz, hTI, ⟨_, _, hTO⟩, f1 _ _ h1, f2 _ _ h2⟩, fun c hc => ?_, q⟩
      have lec : s1.heap.objs.size ≤ c := by
        have five : c = s1.heap.objs.size + 4 ∨ c = s1.heap.objs.size + 2 ∨ c = s1.heap.objs.size + 3 ∨ c = s1.heap.objs.size ∨ c = s1.heap.objs.size + 1 := by simpa using hc
        rcases five with rfl | rfl | rfl | rfl | rfl <;> first | exact le _ | exact Nat.le_refl _
      exact I1.fpOk lec (I1.hok.fresh lec)
end Zd

namespace Zd
open PySem PySem.Spec PyProof.Rows L2

/-- enumerate(v) -/
theorem meets_enum1 {v : Value} {o : Obj} {H : Heap → Prop} (B : Begins v o H) :
    Meets (Builtin.«enumerate.__new__» ⟨[.type "enumerate", v], []⟩) (fun _ R s => H s.heap ∧
      R (.ok (.ret (.ref (s.heap.objs.size + 1)))) { s with heap := (s.heap.push o).push { cls := .type "enumerate", data := .fields #[.none, .bool false, .ref s.heap.objs.size, rawInt 0, .none, .none] } }) :=
  .of_wp fun prog w A R s ⟨h1, h⟩ => by
    obtain ⟨hp, g, d, tk, os⟩ := s
    change R (.ok (.ret (.ref (hp.objs.size + 1)))) _ at h
    have hsub := sub_enumerate
    have hz : (hp.push o).objs.size = hp.objs.size + 1 := Heap.size_push ..
    rw [← hz] at h
    have begin_ : ∀ {A' : Around} {E : Value → Shared → Prop} {Q : Value → Shared → Prop}, Q (.ref hp.objs.size) ⟨hp.push o, g, d, tk, os⟩ → wpAny (model prog w) A' (pyIter v) Q E ⟨hp, g, d, tk, os⟩ :=
      fun q => B.iter prog w _ _ ⟨hp, g, d, tk, os⟩ _ h1 q
    wp_walk using begin_
    refine wpAny_stack_any fun st => wpAny_pure ?_
    split
    · rename_i c _ _ _ _ _
      cases (c == Value.type "enumerate") <;> (wp_walk using begin_) <;> exact ⟨_, rfl, h⟩
    · wp_walk using begin_
      exact ⟨_, rfl, h⟩
def IteG (K : PySem.W.Frag) (s1 : Src) : It :=
  ⟨fun i H => ∃ n, s1.len K H n ∧ i < n, fun i H v H' => ∃ T x, v = .ref T ∧ H T = none ∧ H' = upd H T (.tup [.int (i : Nat), x]) ∧ ∀ z, s1.has K H i z → x = z, fun i H => s1.len K H i⟩
theorem turn_enumG {P : Program} {w : World} {K : PySem.W.Frag} {elts : List Expr} {kk : Nat} {tpos : Pos} {s1 : Src} {e it : Addr} (ne : e ≠ it) (o1 : s1.off e) (o2 : s1.off it) :
    Turn P w K (.Tuple elts kk tpos) (IteG K s1) [e, it] e (fun i h => (∃ old, IsEnum h e it ((i : Nat) : Int) old) ∧ s1.itr it i h) where
  mem := by simp
  obj := fun i h ⟨⟨old, he⟩, h1⟩ c hc => by
    have two : c = e ∨ c = it := by simpa using hc
    rcases two with rfl | rfl
    · exact ⟨_, he, nofun⟩
    · exact Src.itr_obj h1
  keep := fun i h h' ⟨⟨old, he⟩, h1⟩ k => ⟨⟨old, k e (by simp) _ he⟩, Src.itr_keep h1 fun o q => k it (by simp) o q⟩
  item := by
    rintro X rfl rfl rfl hc i pins s σ H E I hf ⟨⟨old, he⟩, h1⟩ ⟨n, l1, lt1⟩
    obtain ⟨P1, St1, D1, t1, g1, f1⟩ := (Src.dr I hc l1 h1 o2).dr
    refine wpAny_pyNext_enum_itemD D1 he t1 lt1 ne (Src.nofp ne o1) fun u h' tk p1 eo q1 hT hsz hk => ⟨_, rfl, wpAny_letOwnedTupleGo_enum (s := { s with heap := h', toks := tk + 1 }) eo fun h'' e'' sb => ?_⟩
    obtain ⟨x, rx, hx⟩ := g1 u p1
    have nel : s.heap.objs.size ≠ e := Nat.ne_of_gt (Heap.lt_size he)
    have nit : s.heap.objs.size ≠ it := by obtain ⟨o, q, _⟩ := Src.itr_obj h1; exact Nat.ne_of_gt (Heap.lt_size q)
    have hT2 : h''.get? s.heap.objs.size = some { cls := .type "tuple", data := .seq #[.int i tk, u] } := (sb.2 _ nel).trans hT
    have new : ObjOk X.prog X.w (upd H s.heap.objs.size (.tup [.int (i : Nat), x])) h'' s.heap.objs.size (.tup [.int (i : Nat), x]) := ⟨show 2 ≤ sizeLine by decide, [.int i tk, u], .cons ⟨_, rfl⟩ (.cons rx .nil), ⟨_, hT2, rfl, _, rfl⟩⟩
    have k2 : ∀ b o, b ∉ [e, it] → s.heap.get? b = some o → h''.get? b = some o := fun b o hb q => (sb.2 b fun z => hb (by simp [z])).trans (hk b o (fun z => hb (by simp [z])) (fun z => hb (by simp [z])) q)
    refine ⟨.ref s.heap.objs.size, _, I.turnedNew (t' := tk + 1) (ch := [e, it]) k2 hf (Nat.le_refl _) new, rfl, ⟨_, x, rfl, I.hok.fresh (Nat.le_refl _), rfl, fun _ q => Src.inj I hx q⟩, ⟨⟨u, ?_⟩, Src.itr_keep (f1 _ _ q1) fun o q => (sb.2 it (Ne.symm ne)).trans q⟩, fun c hc' => ?_⟩
    · have cast : ((i + 1 : Nat) : Int) = (i : Int) + 1 := by omega
      rw [cast]
      exact e''
    · have two : c = e ∨ c = it := by simpa using hc'
      have nc : c ≠ s.heap.objs.size := by
        rcases two with rfl | rfl
        · exact nel.symm
        · exact nit.symm
      rw [upd_ne nc]
      exact (hf c hc').1
  done := by
    rintro X rfl rfl rfl hc i pins s σ H E I hf ⟨⟨old, he⟩, h1⟩ l1
    obtain ⟨P1, St1, D1, t1, g1, f1⟩ := (Src.dr I hc l1 h1 o2).dr
    obtain ⟨f0, f1', f2, f3, f4, f5⟩ := hf it (by simp)
    exact wpAny_pyNext_enum_endD D1 he t1 fun h' eb => ⟨rfl, I.turned (t' := s.toks) (fun b o hb q => eb b o hb q) f0 f1' f3 f4 f5⟩
  self := fun A i s Q E st h => let ⟨⟨_, he⟩, _⟩ := st; wpAny_pyIter_enum he h
def iEnumG (K : PySem.W.Frag) (ta : TA) : TI := fun σ H R => ta σ H fun vs H1 => ∃ (s1 : Src) (n : Nat), vs = [s1.v] ∧ s1.len K H1 n ∧ R (IteG K s1) H1
theorem pi_enumG {X : Cx} {e : Expr} {ta : TA} {p pos tpos : Pos} {elts : List Expr} {kk : Nat} (hg : Gl X "enumerate") (hm : X.mg "enumerate" = none) (ha : PA X [e] ta) (hs : starEach [e] X.env = [(false, eval e X.env)] := by rfl) :
    PI X (.Tuple elts kk tpos) (.Call (.Name "enumerate" p) [e] [] pos) (iEnumG X.K ta) := by
  refine ⟨fun pins s σ H R I h => Call_ (ld_blt I hg hm boot_enumerate (PyProof.Rows.callWith_type1 (thn (ha.run pos pins s σ H _ I h) fun us s1 ⟨vs, H1, I1, r1, s1', n, ex, l1, q⟩ => ?_) hs rfl))⟩
  subst ex
  cases r1 with
  | cons ra rr =>
    cases rr
    obtain ⟨o1, Hb1, B1, hb1, f1, g1⟩ := Src.begins I1 l1 ra
    refine callType_new F.called_enumerate (by decide) (F.typeCall_enumerate_1 _) (F.newCall_enumerate_1 _) (fun obj => F.args_object_init_2 obj _) F.entry_enumerate_new (meets_enum1 B1) ⟨hb1, ?_⟩
    have hz : (s1.heap.push o1).objs.size = s1.heap.objs.size + 1 := Heap.size_push ..
    have he : IsEnum ((s1.heap.push o1).push { cls := .type "enumerate", data := .fields #[.none, .bool false, .ref s1.heap.objs.size, rawInt 0, .none, .none] }) (s1.heap.objs.size + 1) s1.heap.objs.size 0 .none := by
      have g := Heap.get?_push_size (s1.heap.push o1) (o := { cls := .type "enumerate", data := .fields #[.none, .bool false, .ref s1.heap.objs.size, rawInt 0, .none, .none] }) rfl
      rw [hz] at g
      exact g
    have k2 : ∀ b o, s1.heap.get? b = some o → ((s1.heap.push o1).push { cls := .type "enumerate", data := .fields #[.none, .bool false, .ref s1.heap.objs.size, rawInt 0, .none, .none] }).get? b = some o := fun b o x => Heap.get?_push_of_some _ (Heap.get?_push_of_some _ x)
    refine ⟨⟨_, he, rfl⟩, wpAny_pyIter_enum he ⟨s1.heap.objs.size + 1, [s1.heap.objs.size + 1, s1.heap.objs.size], _, _, H1, rfl, I1.kept (t' := s1.toks) k2, turn_enumG (Nat.succ_ne_self _) (g1 _ (Nat.le_succ _)) (g1 _ (Nat.le_refl _)), ⟨⟨.none, he⟩, f1 _ _ (Heap.get?_push_of_some _ (Heap.get?_push_size _ B1.free))⟩, fun b hb => ?_, q⟩⟩
    have le : s1.heap.objs.size ≤ b := by
      have two : b = s1.heap.objs.size + 1 ∨ b = s1.heap.objs.size := by simpa using hb
      rcases two with rfl | rfl
      · exact Nat.le_succ _
      · exact Nat.le_refl _
    exact I1.fpOk le (I1.hok.fresh le)
end Zd

namespace Zd
open PySem PySem.Spec PyProof.Rows L2

section
variable {Z : Cz} {Er : ErW} {O : List Nat} {vs : Option (List Nat)} {te ta tb tc : TE} {tt tu : TT} {m m1 m2 m3 : Env → M Dat} {mb mc : Env → M Bool} {tl : TA} {ml : Env → M (List Dat)}
def signs (x : Str) : List Dat := x.cps.toList.map fun c => .str ⟨#[c]⟩
def itemsG : Dat → Option (List Dat)
  | .lst ds => some ds
  | .tup ds => some ds
  | .str x => some (signs x)
  | _ => none
def Src.Of (Z : Cz) (H : Hp) (p : Pl) (s : Src) (ds : List Dat) : Prop := s.len Z.K H ds.length ∧ ∀ i d, ds[i]? = some d → ∃ x, s.has Z.K H i x ∧ IsD Z H p x d
theorem src_of {H : Hp} {p : Pl} {v : V} {d : Dat} {ds : List Dat} (h : IsD Z H p v d) (e : itemsG d = some ds) : ∃ s : Src, v = s.v ∧ ∀ H' p', Ext H p H' p' → s.Of Z H' p' ds := by
  cases d with
  | lst xs =>
    cases e
    obtain ⟨a, us, rfl, h1, h2⟩ := isD_lst.mp h
    refine ⟨.li a, rfl, fun H' p' ex => ⟨⟨us, (h1.ext ex).sq, h2.len⟩, fun i d hi => ?_⟩⟩
    obtain ⟨x, g1, g2⟩ := (h2.ext ex).get hi
    exact ⟨x, ⟨us, (h1.ext ex).sq, g1⟩, g2⟩
  | tup xs =>
    cases e
    obtain ⟨a, us, rfl, h1, h2⟩ := isD_tup.mp h
    refine ⟨.tu a, rfl, fun H' p' ex => ⟨⟨us, (h1.ext ex).sq, h2.len⟩, fun i d hi => ?_⟩⟩
    obtain ⟨x, g1, g2⟩ := (h2.ext ex).get hi
    exact ⟨x, ⟨us, (h1.ext ex).sq, g1⟩, g2⟩
  | str x =>
    cases e
    refine ⟨.tx x, isD_str.mp h, fun H' p' ex => ⟨by show x.cps.size = (signs x).length; unfold signs; rw [List.length_map, Array.length_toList], fun i d hi => ?_⟩⟩
    unfold signs at hi
    rw [List.getElem?_map, Array.getElem?_toList] at hi
    cases q : x.cps[i]? with
    | none => rw [q] at hi; cases hi
    | some c => rw [q] at hi; cases hi; exact ⟨_, ⟨c, q, rfl⟩, isD_str.mpr rfl⟩
  | _ => cases e
theorem walks_zipG {X : XR} (x : XOk X) {H : Hp} {p : Pl} {s1 s2 : Src} {xs ys : List Dat} (h1 : ∀ H' p', Ext H p H' p' → s1.Of Z H' p' xs) (h2 : ∀ H' p', Ext H p H' p' → s2.Of Z H' p' ys) : Walks Z X (ItzG Z.K s1 s2) (zipD xs ys) H p := fun H1 p1 S1 i e s => by
  obtain ⟨l1, g1⟩ := h1 H1 p1 (x.s e)
  obtain ⟨l2, g2⟩ := h2 H1 p1 (x.s e)
  rw [zip_len]
  refine ⟨fun lt => ?_, fun le => ⟨_, _, l1, l2, by omega, by omega, by omega⟩⟩
  have i1 : i < xs.length := by omega
  have i2 : i < ys.length := by omega
  obtain ⟨u, a1, b1⟩ := g1 i _ (List.getElem?_eq_getElem i1)
  obtain ⟨w, a2, b2⟩ := g2 i _ (List.getElem?_eq_getElem i2)
  refine ⟨⟨_, _, l1, l2, i1, i2⟩, fun y H' ⟨t, v', w', ev, nt, eH, f1, f2⟩ => ?_⟩
  subst ev eH
  cases f1 u a1
  cases f2 w a2
  exact ⟨same_new nt, _, zip_at i1 i2, new_tup s nt (isDs_cons.mpr ⟨_, _, rfl, b1, .one b2⟩)⟩
def iZipM (l : Env → M (List Dat)) (ρ : Env) : M (List Dat) := l ρ >>= fun ds => match ds with
  | [a, b] => M.opt (itemsG a) >>= fun xs => M.opt (itemsG b) >>= fun ys => pure (zipD xs ys)
  | _ => M.no
theorem ji_zipG {X : XR} (x : XOk X) (hl : JA Z Er O tl ml) : JI Z Er O X (iZipG Z.K tl) (iZipM ml) := fun σ H p ρ S R hE hS q =>
  hl σ H p ρ S _ hE hS ((q.bnd xE).mono fun ds S1 H1 p1 e1 s1 q1 vs hv => by
    split at q1
    · obtain ⟨v, w, rfl, h1, h2⟩ := isDs_two hv
      obtain ⟨xs, ex, q1⟩ := Post.opt q1
      obtain ⟨ys, ey, q1⟩ := Post.opt q1
      obtain ⟨a, rfl, k1⟩ := src_of h1 ex
      obtain ⟨b, rfl, k2⟩ := src_of h2 ey
      exact ⟨a, b, _, _, rfl, (k1 H1 p1 Ext.refl).1, (k2 H1 p1 Ext.refl).1, q1.pure xE s1 _ (walks_zipG x k1 k2)⟩
    · exact (bad_no (S := S1) q1).elim)
def enumD (xs : List Dat) : List Dat := (List.range xs.length).zip xs |>.map fun q => .tup [.int (q.1 : Int), q.2]
theorem enum_len {xs : List Dat} : (enumD xs).length = xs.length := by unfold enumD; simp
theorem enum_at {xs : List Dat} {i : Nat} {d : Dat} (h : xs[i]? = some d) : (enumD xs)[i]? = some (.tup [.int (i : Int), d]) := by
  unfold enumD
  rw [List.getElem?_map, List.getElem?_zip_eq_some (z := (i, d)) |>.mpr ⟨List.getElem?_range (List.getElem?_eq_some_iff.mp h).1, h⟩]
  rfl
theorem walks_enumG {X : XR} (x : XOk X) {H : Hp} {p : Pl} {s1 : Src} {xs : List Dat} (h1 : ∀ H' p', Ext H p H' p' → s1.Of Z H' p' xs) : Walks Z X (IteG Z.K s1) (enumD xs) H p := fun H1 p1 S1 i e s => by
  obtain ⟨l1, g1⟩ := h1 H1 p1 (x.s e)
  rw [enum_len]
  refine ⟨fun lt => ?_, fun le => by subst le; exact l1⟩
  obtain ⟨u, a1, b1⟩ := g1 i _ (List.getElem?_eq_getElem lt)
  refine ⟨⟨_, l1, lt⟩, fun y H' ⟨t, v', ev, nt, eH, f1⟩ => ?_⟩
  subst ev eH
  cases f1 u a1
  exact ⟨same_new nt, _, enum_at (List.getElem?_eq_getElem lt), new_tup s nt (isDs_cons.mpr ⟨_, _, rfl, isD_int.mpr rfl, .one b1⟩)⟩
def iEnM (l : Env → M (List Dat)) (ρ : Env) : M (List Dat) := l ρ >>= fun ds => match ds with
  | [a] => M.opt (itemsG a) >>= fun xs => pure (enumD xs)
  | _ => M.no
theorem ji_enumG {X : XR} (x : XOk X) (hl : JA Z Er O tl ml) : JI Z Er O X (iEnumG Z.K tl) (iEnM ml) := fun σ H p ρ S R hE hS q =>
  hl σ H p ρ S _ hE hS ((q.bnd xE).mono fun ds S1 H1 p1 e1 s1 q1 vs hv => by
    split at q1
    · obtain ⟨v, rfl, h1⟩ := isDs_one hv
      obtain ⟨xs, ex, q1⟩ := Post.opt q1
      obtain ⟨a, rfl, k1⟩ := src_of h1 ex
      exact ⟨a, _, rfl, (k1 H1 p1 Ext.refl).1, q1.pure xE s1 _ (walks_enumG x k1)⟩
    · exact (bad_no (S := S1) q1).elim)
/-- the signs of a text -/
theorem walks_str {X : XR} {H : Hp} {p : Pl} {x : Str} : Walks Z X (Its x) (signs x) H p := fun H1 p1 S1 i e s => by
  have el : (signs x).length = x.cps.size := by unfold signs; rw [List.length_map, Array.length_toList]
  rw [el]
  refine ⟨fun lt => ⟨lt, fun y H' ⟨eH, c, h1, h2⟩ => ?_⟩, fun le => Nat.le_of_eq le⟩
  subst eH h2
  refine ⟨Same.refl _, .str ⟨#[c]⟩, ?_, isD_str.mpr rfl⟩
  unfold signs
  rw [List.getElem?_map, Array.getElem?_toList, h1]
  rfl
def iStrM (a : Env → M Dat) (ρ : Env) : M (List Dat) := a ρ >>= fun d => M.opt (sT d) >>= fun x => pure (signs x)
theorem ji_str {X : XR} (ha : JD Z Er O ta m1) : JI Z Er O X (iStr ta) (iStrM m1) := fun σ H p ρ S R hE hS q =>
  ha σ H p ρ S _ hE hS ((q.bnd xE).mono fun d S1 H1 p1 e1 s1 q1 v hv => by
    obtain ⟨x, ex, q1⟩ := Post.opt q1
    rw [sT_is ex] at hv
    exact ⟨x, isD_str.mp hv, q1.pure xE s1 _ walks_str⟩)
end
end Zd

namespace Zd
open PySem PySem.Spec PyProof.Rows L2

/-! ### d.update(e) -/
section
variable {X : Cx} {a b c d e o : Expr} {pos apos cpos : Pos} {ta tb tc td ty : TE}
def tDUpd (td ty : TE) : TE := fun σ H Q => td σ H fun x H1 => ∃ a, x = .ref a ∧ L2.IsD H1 a ∧ ty σ H1 fun y H2 => ∃ b kvs more, y = .ref b ∧ a ≠ b ∧ H2 a = some (.dK kvs) ∧ H2 b = some (.dK more) ∧ kvs.length + more.length ≤ sizeLine ∧ Q .non (upd H2 a (.dK (mergeK kvs more)))
theorem pe_dupd (ho : PE X o td) (he : PE X e ty) (m : M1 X o "update" apos e cpos) : PE X (.Call (.Attribute o "update" apos) [e] [] cpos) (tDUpd td ty) := by
  refine ⟨fun pins s σ H Q I h => wpAny_Call_method m.base m.few m.line PySem.F.plainAttrs_dict PySem.F.slot_dict_update PySem.F.type_dict_update (thn (ho.run pins s σ H _ I h) fun u s1 ⟨x, H1, I1, rx, a, ex, da, q1⟩ => ?_)⟩
  subst ex
  cases (show u = Value.ref a from rx)
  obtain ⟨t1, t2, _⟩ := isD_at I1 da
  refine ⟨t1, t2, ?_⟩
  rw [m.trees]
  refine Calls.callWith_builtin rfl (Calls.evalArgs_plain (Calls.spliced_cons (thn (he.run pins s1 σ H1 _ I1 q1) fun iv s2 ⟨y, H2, I2, ry, b, kvs, more, ey, ne, ea, eb, lk, q2⟩ => Calls.spliced_nil ?_)))
  subst ey
  cases (show iv = Value.ref b from ry)
  obtain ⟨za, ha, vs, ra, da⟩ := dk_of I2.hok ea
  obtain ⟨zb, hb, ws, rb, db⟩ := dk_of I2.hok eb
  refine call_meetsIn PySem.F.slot_dict_update da.typeIs PySem.F.entry_dict_update (PySem.F.args_dict_update_2 _ _) (meets_dict_update (mixKind X.prog X.w) a b ne hb) ⟨vs, ws, da, db, by rw [← ra.length, ← rb.length]; exact lk, fun h' d1 d2 hs => ?_⟩
  have he : ∃ q, h'.get? a = some q := let ⟨q, _, _, hq, _⟩ := d1; ⟨q, hq⟩
  have hz : (mergeK kvs more).length ≤ sizeLine := Nat.le_trans (length_mergeK more kvs) lk
  exact ⟨.non, _, d_write (t' := s2.toks) I2 (by rw [ea]; exact True.intro) hs he (dk_new hz ha (rb.merge ra) d1), rfl, q2⟩
end

section
variable {Z : Cz} {Er : ErW} {O : List Nat} {vs : Option (List Nat)} {te ta tb tc : TE} {tt tu : TT} {m m1 m2 m3 : Env → M Dat} {mb mc : Env → M Bool} {tl : TA} {ml : Env → M (List Dat)} {ts tr : TS} {ms mr : Env → M Flow}

/-! ### f'..', join -/
def dFmt (d : Dat) : M Dat := match d with
  | .str x => M.need (decide (x.length ≤ 100000)) >>= fun _ => pure (.str x)
  | .int i => M.need (decide (i.natAbs.log2 < 1920)) >>= fun _ => pure (.str (toString i))
  | _ => M.no
theorem j_fmt (h : JD Z Er O te m) : JD Z Er O (tFmt te) (xUn dFmt m) := fun σ H p ρ S Q hE hS q =>
  h σ H p ρ S _ hE hS ((q.bnd xE).mono fun d S1 H1 p1 e1 s1 q1 v hv => by
    unfold dFmt at q1
    split at q1
    · obtain ⟨c, q1⟩ := Post.need q1
      exact .inl ⟨_, isD_str.mp hv, lim (of_decide_eq_true c), q1.pure xE s1 _ (isD_str.mpr rfl)⟩
    · obtain ⟨c, q1⟩ := Post.need q1
      exact .inr ⟨_, isD_int.mp hv, of_decide_eq_true c, q1.pure xE s1 _ (isD_str.mpr rfl)⟩
    · exact (bad_no (S := S1) q1).elim)
def xJs : List (Env → M Dat) → Str → Env → M Str
  | [], acc, _ => pure acc
  | m :: r, acc, ρ => m ρ >>= fun d => M.opt (sT d) >>= fun y => M.need (decide ((acc ++ y).length ≤ 100000)) >>= fun _ => xJs r (acc ++ y) ρ
inductive JJ (Z : Cz) (Er : ErW) (O : List Nat) : List TE → List (Env → M Dat) → Prop where
  | nil : JJ Z Er O [] []
  | cons {t : TE} {m : Env → M Dat} {ts : List TE} {ms : List (Env → M Dat)} (h : JD Z Er O t m) (r : JJ Z Er O ts ms) : JJ Z Er O (t :: ts) (m :: ms)
theorem jj_run {ts : List TE} {ms : List (Env → M Dat)} (h : JJ Z Er O ts ms) : ∀ (acc : Str) (σ : L2.St) (H : Hp) (p : Pl) (ρ : Env) (S : List Dat) (Q : Str → Hp → Prop), IsE Z O H p σ ρ → IsS Z H p S → Post Z Er ExtE (xJs ms acc ρ S) H p (fun y _ H' p' => Q y H') → tJs ts acc σ H Q := by
  induction h with
  | nil => exact fun acc σ H p ρ S Q hE hS q => q.pure xE hS
  | cons h r ih => exact fun acc σ H p ρ S Q hE hS q => h σ H p ρ S _ hE hS ((q.bnd xE).mono fun d S1 H1 p1 e1 s1 q1 v hv => by
      obtain ⟨y, ey, q1⟩ := Post.opt q1
      rw [sT_is ey] at hv
      obtain ⟨c, q1⟩ := Post.need q1
      exact ⟨y, isD_str.mp hv, lim (of_decide_eq_true c), ih _ σ H1 p1 ρ S1 _ (hE.ext e1 hS) s1 q1⟩)
def xJoined (l : List (Env → M Dat)) (ρ : Env) : M Dat := xJs l Str.empty ρ >>= fun y => pure (.str y)
theorem j_joined {ts : List TE} {ms : List (Env → M Dat)} (h : JJ Z Er O ts ms) : JD Z Er O (fun σ H Q => tJs ts Str.empty σ H fun out H1 => Q (.str out) H1) (xJoined ms) := fun σ H p ρ S Q hE hS q =>
  jj_run h _ σ H p ρ S _ hE hS ((q.bnd xE).mono fun y S1 H1 p1 e1 s1 q1 => q1.pure xE s1 _ (isD_str.mpr rfl))
def strsD : List Dat → Option (List Str)
  | [] => some []
  | .str x :: r => (strsD r).map (x :: ·)
  | _ => none
theorem strsD_is {H : Hp} {p : Pl} : ∀ {ds : List Dat} {vs : List V} {xs : List Str}, IsDs Z H p vs ds → strsD ds = some xs → vs = xs.map V.str
  | [], _, _, h, e => by cases e; exact isDs_nil.mp h
  | d :: ds, _, bs, h, e => by
    obtain ⟨v, r, rfl, h1, h2⟩ := isDs_cons.mp h
    cases d with
    | str b =>
      unfold strsD at e
      cases z : strsD ds with
      | none => rw [z] at e; cases e
      | some cs =>
        rw [z] at e
        cases e
        rw [isD_str.mp h1, strsD_is h2 z]
        rfl
    | _ => cases e
def xJoin (m1 m2 : Env → M Dat) (ρ : Env) : M Dat := m1 ρ >>= fun a => M.opt (sT a) >>= fun x => m2 ρ >>= fun b => M.opt (dLst b) >>= fun l => M.opt (strsD l) >>= fun ys => M.need (decide ((ys.map (·.length)).sum + ys.length * x.length ≤ 16777216)) >>= fun _ => pure (.str (Txt.join x ys))
theorem j_join (h1 : JD Z Er O ta m1) (h2 : JD Z Er O tb m2) : JD Z Er O (tM1 (fun x xs H Q => ∃ a p, ∃ ys : List Str, x = .str a ∧ xs = [.ref p] ∧ (SqL Z.K H p (ys.map V.str) ∨ SqT Z.K H p (ys.map V.str)) ∧
      (ys.map (·.length)).sum + ys.length * a.length ≤ 16777216 ∧ Q (.str (Txt.join a ys)) H) ta tb) (xJoin m1 m2) := fun σ H p ρ S Q hE hS q =>
  h1 σ H p ρ S _ hE hS ((q.bnd xE).mono fun d S1 H1 p1 e1 s1 q1 v hv => by
    obtain ⟨x, ex, q1⟩ := Post.opt q1
    rw [sT_is ex] at hv
    refine ⟨⟨x, isD_str.mp hv⟩, h2 σ H1 p1 ρ S1 _ (hE.ext e1 hS) s1 ((q1.bnd xE).mono fun e S2 H2 p2 e2 s2 q3 w hw => ?_)⟩
    obtain ⟨l, el, q3⟩ := Post.opt q3
    obtain ⟨ys, ey, q3⟩ := Post.opt q3
    obtain ⟨c, q3⟩ := Post.need q3
    rw [dLst_some el] at hw
    obtain ⟨a, us, rfl, g1, g2⟩ := isD_lst.mp hw
    rw [strsD_is g2 ey] at g1
    exact ⟨x, a, ys, isD_str.mp hv, rfl, .inl g1.sq, of_decide_eq_true c, q3.pure xE s2 _ (isD_str.mpr rfl)⟩)
/-! ### truth -/
def truD : Dat → Option Bool
  | .non => some false
  | .bl b => some b
  | .int i => some (i != 0)
  | .tup ds => some (!ds.isEmpty)
  | .lst ds => some (!ds.isEmpty)
  | _ => none
def bTru (a : Env → M Dat) (ρ : Env) : M Bool := a ρ >>= fun d => M.opt (truD d)
theorem emp {α β : Type} {xs : List α} {ys : List β} (h : xs.length = ys.length) : (!xs.isEmpty) = !ys.isEmpty := by
  cases xs <;> cases ys <;> first | rfl | cases h
theorem jb_tru (ha : JD Z Er O ta m1) : JB Z Er O (fun σ H Q => ta σ H fun x H' => ∃ k, TruV Z.K x H' k ∧ Q k H') (bTru m1) := fun σ H p ρ S Q hE hS q =>
  ha σ H p ρ S _ hE hS ((q.bnd xE).mono fun d S1 H1 p1 e1 s1 q1 v hv => by
    obtain ⟨b, e, k⟩ := opt_pure xE q1 s1
    refine ⟨b, ?_, k b rfl⟩
    cases d with
    | non => cases e; rw [isD_non.mp hv]; rfl
    | bl b => cases e; rw [isD_bl.mp hv]; rfl
    | int i => cases e; rw [isD_int.mp hv]; rfl
    | tup ds => cases e; obtain ⟨a, vs, rfl, g1, g2⟩ := isD_tup.mp hv; exact .inr (.inl ⟨vs, g1.sq, (emp g2.len).symm⟩)
    | lst ds => cases e; obtain ⟨a, vs, rfl, g1, g2⟩ := isD_lst.mp hv; exact .inl ⟨vs, g1.sq, (emp g2.len).symm⟩
    | _ => cases e)
/-! ### {k: v, ..} -/
def IsPs (Z : Cz) (H : Hp) (p : Pl) (vs : List (V × V)) (ps : List (Dat × Dat)) : Prop := IsDs Z H p (vs.map (·.1)) (ps.map (·.1)) ∧ IsDs Z H p (vs.map (·.2)) (ps.map (·.2))
inductive JPs (Z : Cz) (Er : ErW) (O : List Nat) : List (TE × TE) → List ((Env → M Dat) × (Env → M Dat)) → Prop where
  | nil : JPs Z Er O [] []
  | cons {t u : TE} {m n : Env → M Dat} {ts : List (TE × TE)} {ms : List ((Env → M Dat) × (Env → M Dat))} (h : JD Z Er O t m) (g : JD Z Er O u n) (r : JPs Z Er O ts ms) : JPs Z Er O ((t, u) :: ts) ((m, n) :: ms)
theorem jps_run {ts : List (TE × TE)} {ms : List ((Env → M Dat) × (Env → M Dat))} (h : JPs Z Er O ts ms) : ∀ (σ : L2.St) (H : Hp) (p : Pl) (ρ : Env) (S : List Dat) (Q : List (V × V) → Hp → Prop), IsE Z O H p σ ρ → IsS Z H p S → Post Z Er ExtE (xPairs ms ρ S) H p (fun ps _ H' p' => ∀ vs, IsPs Z H' p' vs ps → Q vs H') → tPairs ts σ H Q := by
  induction h with
  | nil => exact fun σ H p ρ S Q hE hS q => q.pure xE hS [] ⟨isDs_nil.mpr rfl, isDs_nil.mpr rfl⟩
  | cons h g r ih => exact fun σ H p ρ S Q hE hS q => h σ H p ρ S _ hE hS ((q.bnd xE).mono fun d S1 H1 p1 e1 s1 q1 v hv => g σ H1 p1 ρ S1 _ (hE.ext e1 hS) s1 ((q1.bnd xE).mono fun e S2 H2 p2 e2 s2 q2 w hw =>
      ih σ H2 p2 ρ S2 _ ((hE.ext e1 hS).ext e2 s1) s2 ((q2.bnd xE).mono fun l S3 H3 p3 e3 s3 q3 vs ⟨k1, k2⟩ => q3.pure xE s3 ((v, w) :: vs) ⟨isDs_cons.mpr ⟨v, _, rfl, hv.ext (e2.trans e3).s, k1⟩, isDs_cons.mpr ⟨w, _, rfl, hw.ext e3.s, k2⟩⟩)))
theorem keys_is {H : Hp} {p : Pl} : ∀ {ps : List (Dat × Dat)} {vs : List (V × V)} {ks : List Key}, IsPs Z H p vs ps → keysD ps = some ks → vs = (ks.zip (vs.map (·.2))).map (fun kv => (kV kv.1, kv.2)) ∧ ks.length = vs.length
  | [], vs, _, ⟨h, _⟩, e => by
    cases e
    cases vs with
    | nil => exact ⟨rfl, rfl⟩
    | cons _ _ => exact absurd (isDs_nil.mp h) nofun
  | (a, b) :: ps, vs, ks, ⟨h1, h2⟩, e => by
    cases vs with
    | nil => obtain ⟨_, _, z, _⟩ := isDs_cons.mp h1; cases z
    | cons v vs =>
      obtain ⟨x, r, z, g1, g2⟩ := isDs_cons.mp h1
      obtain ⟨y, r', z', g1', g2'⟩ := isDs_cons.mp h2
      cases z
      cases z'
      unfold keysD at e
      cases ek : keyD a with
      | none => rw [ek] at e; cases e
      | some k =>
        cases er : keysD ps with
        | none => rw [ek, er] at e; cases e
        | some kr =>
          rw [ek, er] at e
          cases e
          obtain ⟨q1, q2⟩ := keys_is (ps := ps) ⟨g2, g2'⟩ er
          refine ⟨?_, congrArg (· + 1) q2⟩
          rw [List.map_cons, List.zip_cons_cons, List.map_cons, ← q1, ← keyD_is g1 ek]
theorem val_no {k : Key} : ∀ {ks : List Key} {vs : List V}, ks.any (fun g => decide (g = k)) = false → valV (ks.zip vs) k = none
  | [], _, _ => rfl
  | g :: ks, [], _ => rfl
  | g :: ks, v :: vs, h => by
    rw [List.any_cons, Bool.or_eq_false_iff] at h
    rw [List.zip_cons_cons, valV_neg (of_decide_eq_false h.1), val_no h.2]
theorem nd_app {ks ms : List Key} {k : Key} : noDup (ks ++ k :: ms) = true → ks.any (fun g => decide (g = k)) = false ∧ noDup ((ks ++ [k]) ++ ms) = true := by
  intro h
  refine ⟨?_, by rw [List.append_assoc]; exact h⟩
  induction ks with
  | nil => rfl
  | cons g ks ih =>
    rw [List.cons_append] at h
    unfold noDup at h
    rw [Bool.and_eq_true, Bool.not_eq_true', List.any_append, Bool.or_eq_false_iff, List.any_cons, Bool.or_eq_false_iff] at h
    rw [List.any_cons, Bool.or_eq_false_iff]
    refine ⟨decide_eq_false fun e => of_decide_eq_false h.1.2.1 e.symm, ih h.2⟩
theorem merge_new : ∀ {ms ks : List Key} {us vs : List V}, noDup (ks ++ ms) = true → ks.length = vs.length → ms.length = us.length → mergeK (ks.zip vs) (ms.zip us) = (ks ++ ms).zip (vs ++ us)
  | [], ks, us, vs, _, h1, h2 => by
    have e : us = [] := List.length_eq_zero_iff.mp h2.symm
    subst e
    rw [List.append_nil, List.append_nil]
    rfl
  | k :: ms, ks, [], vs, _, h1, h2 => by cases h2
  | k :: ms, ks, u :: us, vs, h, h1, h2 => by
    obtain ⟨n1, n2⟩ := nd_app h
    rw [List.zip_cons_cons]
    show mergeK (putK (ks.zip vs) k u) (ms.zip us) = _
    rw [putK_new u (val_no n1)]
    have e : ks.zip vs ++ [(k, u)] = (ks ++ [k]).zip (vs ++ [u]) := by rw [List.zip_append h1]; rfl
    rw [e, merge_new n2 (by simp [h1]) (Nat.succ.inj h2), List.append_assoc, List.append_assoc]
    rfl
theorem jf_disp {trs : List (TE × TE)} {ms : List ((Env → M Dat) × (Env → M Dat))} (h : JPs Z Er O trs ms) : JF Z Er O (tDisp trs) (xDisp ms) := fun σ H p ρ S Q hE hS q D nD => by
  obtain ⟨hE2, hS2⟩ := own_new (o := .dK []) hE hS nD
  have eN : ExtE H p (upd H D (.dK [])) p := ExtE.new nD
  refine jps_run h σ _ _ ρ S _ hE2 hS2 ((q.bndK.up xE eN).plus.mono fun ps S1 H1 p1 e1 s1 q1 vs hv => ?_)
  have mD : D ∈ p.ω ++ [D] := List.mem_append_right _ (List.mem_singleton.mpr rfl)
  have hD : H1 D = some (.dK []) := e1.k D _ upd_same (hS2.dj D mD).1
  obtain ⟨ks, ek, q1⟩ := Post.opt q1
  obtain ⟨c, q1⟩ := Post.need q1
  rw [Bool.and_eq_true, decide_eq_true_eq] at c
  obtain ⟨k1, k2⟩ := keys_is hv ek
  refine ⟨hD, ks.zip (vs.map (·.2)), k1, by rw [List.length_zip]; exact Nat.le_trans (Nat.min_le_left _ _) c.2, ?_⟩
  have mk : mergeK [] (ks.zip (vs.map (·.2))) = ks.zip (vs.map (·.2)) := by
    have := merge_new (ks := []) (vs := []) (ms := ks) (us := vs.map (·.2)) c.1 rfl (by rw [List.length_map]; exact k2)
    exact this
  rw [mk]
  have mD1 : D ∈ p1.ω := by rw [e1.ω]; exact mD
  have ePut : Ext H1 p1 (L2.upd H1 D (.dK (ks.zip (vs.map (·.2))))) p1 := ext_put mD1
  have sPut := s1.put (o := .dK (ks.zip (vs.map (·.2)))) mD1
  have ep : p1 = ⟨p1.α, p.ω ++ [D], p.γ⟩ := by
    have h1 := e1.ω
    have h2 := e1.γ
    cases p1
    cases h1
    cases h2
    rfl
  have nh : ¬ (⟨p1.α, p.ω, p.γ⟩ : Pl).has D := by
    rintro (h | h | h)
    · exact (s1.dj D mD1).1 h
    · exact hS.wt D (.inl h) nD
    · exact hS.wt D (.inr h) nD
  have ex : ExtE H p (L2.upd H1 D (.dK (ks.zip (vs.map (·.2))))) ⟨p1.α, p.ω, p.γ⟩ := by
    have z : ExtE H p H1 ⟨p1.α, p.ω, p.γ⟩ := eN.trans ⟨e1.α, rfl, rfl, e1.k, e1.t⟩
    exact ⟨z.α, rfl, rfl, fun a o h n => by rw [upd_ne (ne_of_none h nD)]; exact z.k a o h n, fun a n => by rw [upd_ne fun c => n (by rw [c]; exact nD)]; exact z.t a n⟩
  have sL : IsS Z (L2.upd H1 D (.dK (ks.zip (vs.map (·.2))))) ⟨p1.α, p.ω, p1.γ⟩ S1 := (sPut.less (ω := p.ω) fun a h => by rw [e1.ω]; exact List.mem_append_left _ h)
  have eg : p1.γ = p.γ := e1.γ
  rw [eg] at sL
  refine q1 _ _ ex sL D nD (by rw [upd_same]; exact nofun) nh (by rw [← ep]; exact sPut) ?_
  rw [← ep]
  exact ⟨_, upd_same, by rw [List.length_map]; exact k2, hv.2.ext ePut⟩
theorem j_disp {trs : List (TE × TE)} {ms : List ((Env → M Dat) × (Env → M Dat))} (h : JPs Z Er O trs ms) : JD Z Er O (tDisp trs) (xDisp ms) := (jf_disp h).d
end
end Zd

namespace Zd
open PySem PySem.Spec PyProof.Rows L2
open AutoSeq1 (wpAny_loadPart')

/-! ### == with dicts among what is compared -/
/-- its == says: not mine -/
def Mute (A : Around) (id : String) (s : Shared) (a b : Value) : Prop := ∀ (prog : Program) (w : World) (E : Value → Shared → Prop) (Q : Value → Shared → Prop), Q .notImplemented s → wpAny (model prog w) A (call (.builtin id) [a, b]) Q E s
/-- what is no float is asked so -/
def Plainly (A : Around) (s : Shared) (a b : Value) : Prop := ∀ (prog : Program) (w : World) (E : Value → Shared → Prop) (Q : Bool → Shared → Prop), wpAny (model prog w) A (richCompare .Eq a b) (fun v s' => wpAny (model prog w) A (truthOfDropped v) Q E s') E s → wpAny (model prog w) A (eqBool a b) Q E s
theorem eqAt_mute {s : Shared} {A : Around} {a b : Value} {T U i j : String} (pl : Plainly A s a b) (ha : s.TypeIs a T) (hb : s.TypeIs b U) (hTU : (Value.type T != Value.type U) = true) (hs : isSubtype (.type U) (.type T) = pure false) (h1 : Slot T (cmpInfo .Eq).2.1 i) (h2 : Slot U (cmpInfo .Eq).2.2 j)
    (m1 : Mute A i s a b) (m2 : Mute A j s b a) (sm : ∀ (prog : Program) (w : World) (E : Value → Shared → Prop) (Q : Bool → Shared → Prop), Q false s → wpAny (model prog w) A (isSame a b) Q E s) (hu : A.units < cLine) : SeqAt.EqAt A s a b false := fun prog w E Q q =>
  pl prog w E Q (SeqAt.rc_eq_decline_or (k := false) ha hb hTU hs h1 h2 (fun Q' q' => m1 prog w E Q' q') (fun Q' q' => m2 prog w E Q' q') (fun Q' q' => sm prog w E Q' q') (.inr hu) (wpAny_truthy_bool q))
/-- a dict lies there -/
def DAt (s : Shared) (d : Addr) : Prop := ∃ (dd : Option Addr) (es : Array DictEntry) (ep : Nat) (sl : Array (Option Value)), s.heap.get? d = some { cls := .type "dict", dict := dd, data := .dict es ep, slots := sl }
theorem DAt.ty {s : Shared} {d : Addr} (h : DAt s d) : s.TypeIs (.ref d) "dict" := let ⟨_, _, _, _, e⟩ := h; ⟨_, e, rfl⟩
theorem dict_mute {s : Shared} {A : Around} {d : Addr} {b : Value} {T : String} (hd : DAt s d) (hb : s.TypeIs b T) (hs : isSubtype (.type T) (.type "dict") = pure false) : Mute A "dict.__eq__" s (.ref d) b := fun prog w E Q q => by
  refine wpAny_call_entry PySem.F.slot_dict_eq hd.ty PySem.F.entry_dict_eq ?_ (PySem.F.args_dict_eq_2 _ _)
  change wpAny _ _ (Builtin.Dict.dictSlotArgs "__eq__" ⟨[.ref d, b], []⟩ >>= _) _ _ s
  refine wpAny_bind ?_
  unfold Builtin.Dict.dictSlotArgs
  refine wpAny_bind (wpAny_notOrdered_dict hd.ty ?_)
  change wpAny _ _ (pure (Value.ref d, b)) _ _ s
  refine wpAny_pure (wpAny_bind (wpAny_isInstance hb hs ?_))
  simp only [Bool.not_false, if_true]
  refine wpAny_bind (wpAny_rule ?_)
  exact wpAny_pure (by exact ⟨_, rfl, q⟩)
theorem gives_mute {s : Shared} {A : Around} {id T n : String} {a b : Value} (sl : Slot T n id) (ha : s.TypeIs a T) {Bd : Builtin} (he : entryFor table id = some Bd) (hg : Meets (Bd ⟨[a, b], []⟩) fun _ R s' => s' = s ∧ R (.ok (.ret .notImplemented)) s') (ok : argsOk id ⟨[a, b], []⟩) : Mute A id s a b := fun prog w E Q q =>
  call_meets sl ha he ok hg ⟨rfl, q⟩

/-! the others, asked of a dict -/
section
variable {d : Addr} {dd : Option Addr} {es : Array DictEntry} {ep : Nat} {sl : Array (Option Value)}
abbrev No (d : Addr) (dd : Option Addr) (es : Array DictEntry) (ep : Nat) (sl : Array (Option Value)) : PySem.Spec := fun _ R s => s.heap.get? d = some { cls := .type "dict", dict := dd, data := .dict es ep, slots := sl } ∧ R (.ok (.ret .notImplemented)) s
theorem no_non : Meets (Builtin.«NoneType.__eq__» ⟨[.none, .ref d], []⟩) (No d dd es ep sl) := .of_wp fun prog w A R s ⟨hl, h⟩ => by
  obtain ⟨hp, g, dr, tk, os⟩ := s
  wp_walk using wpAny_loadPart' hl, wpAny_load hl
  exact ⟨_, rfl, h⟩
theorem no_bl (b : Bool) : Meets (Builtin.«int.__eq__» ⟨[.bool b, .ref d], []⟩) (No d dd es ep sl) := .of_wp fun prog w A R s ⟨hl, h⟩ => by
  obtain ⟨hp, g, dr, tk, os⟩ := s
  wp_walk using wpAny_loadPart' hl, wpAny_load hl
  exact ⟨_, rfl, h⟩
theorem no_int (b : Int) (u : Tok) : Meets (Builtin.«int.__eq__» ⟨[.int b u, .ref d], []⟩) (No d dd es ep sl) := .of_wp fun prog w A R s ⟨hl, h⟩ => by
  obtain ⟨hp, g, dr, tk, os⟩ := s
  wp_walk using wpAny_loadPart' hl, wpAny_load hl
  exact ⟨_, rfl, h⟩
theorem no_str (b : Str) (u : Tok) : Meets (Builtin.«str.__eq__» ⟨[.str b u, .ref d], []⟩) (No d dd es ep sl) := .of_wp fun prog w A R s ⟨hl, h⟩ => by
  obtain ⟨hp, g, dr, tk, os⟩ := s
  wp_walk using wpAny_loadPart' hl, wpAny_load hl
  exact ⟨_, rfl, h⟩
theorem no_lst (l : Addr) (items : Array Value) (n : Nat) (d2 : Option Addr) (s2 : Array (Option Value)) : Meets (Builtin.«list.__eq__» ⟨[.ref l, .ref d], []⟩) (fun A R s => s.heap.get? l = some { cls := .type "list", dict := d2, data := .seq items n, slots := s2 } ∧ No d dd es ep sl A R s) := .of_wp fun prog w A R s ⟨hl, hd, h⟩ => by
  obtain ⟨hp, g, dr, tk, os⟩ := s
  have f1 := F.sub_dict_list
  wp_walk using wpAny_loadPart' hl, wpAny_load hl, wpAny_loadPart' hd, wpAny_load hd
  exact ⟨_, rfl, h⟩
theorem no_tup (l : Addr) (items : Array Value) (n : Nat) (d2 : Option Addr) (s2 : Array (Option Value)) : Meets (Builtin.«tuple.__eq__» ⟨[.ref l, .ref d], []⟩) (fun A R s => s.heap.get? l = some { cls := .type "tuple", dict := d2, data := .seq items n, slots := s2 } ∧ No d dd es ep sl A R s) := .of_wp fun prog w A R s ⟨hl, hd, h⟩ => by
  obtain ⟨hp, g, dr, tk, os⟩ := s
  have f1 := F.sub_dict_tuple
  wp_walk using wpAny_loadPart' hl, wpAny_load hl, wpAny_loadPart' hd, wpAny_load hd
  exact ⟨_, rfl, h⟩
end
end Zd

namespace Zd
open PySem PySem.Spec PyProof.Rows L2

/-! ### == of trees with empty dicts -/
inductive KD (s : Shared) : Value → Nat → Prop
  | non : KD s .none 0
  | bl (b : Bool) : KD s (.bool b) 1
  | int (i : Int) (t : Tok) : KD s (.int i t) 2
  | str (x : Str) (t : Tok) : KD s (.str x t) 3
  | lst {a : Addr} {its : Array Value} (h : s.heap.IsList a its) : KD s (.ref a) 4
  | tup {a : Addr} {its : Array Value} (h : s.heap.IsTuple a its) : KD s (.ref a) 5
  | dic {a : Addr} (h : DAt s a) : KD s (.ref a) 6
section
variable {s : Shared} {A : Around} {d : Addr} (hd : DAt s d) (hu : A.units < cLine)
include hd hu
theorem ea_non_d : SeqAt.EqAt A s .none (.ref d) false := by
  obtain ⟨dd, es, ep, sl, e⟩ := id hd
  exact eqAt_mute (by (intro prog w E Q q; unfold eqBool; refine wpAny_holding (wpAny_ite_split (fun hab => absurd (eq_of_beq hab) nofun) fun _ => wpAny_bind q))) rfl hd.ty (by decide) F.sub_dict_NoneType F.slot_NoneType_eq F.slot_dict_eq_refl (fun _ _ _ _ q => call_meets F.slot_NoneType_eq rfl F.entry_NoneType_eq (F.args_NoneType_eq_2 _ _) no_non ⟨e, q⟩) (dict_mute hd rfl F.sub_NoneType_dict) (fun _ _ _ _ q => wpAny_of_eq (rfl : isSame .none (.ref d) = pure false) q) hu
theorem ea_d_non : SeqAt.EqAt A s (.ref d) .none false := by
  obtain ⟨dd, es, ep, sl, e⟩ := id hd
  exact eqAt_mute (by (intro prog w E Q q; unfold eqBool; refine wpAny_holding (wpAny_ite_split (fun hab => absurd (eq_of_beq hab) nofun) fun _ => wpAny_bind q))) hd.ty rfl (by decide) F.sub_NoneType_dict F.slot_dict_eq F.slot_NoneType_eq_refl (dict_mute hd rfl F.sub_NoneType_dict) (fun _ _ _ _ q => call_meets F.slot_NoneType_eq_refl rfl F.entry_NoneType_eq (F.args_NoneType_eq_2 _ _) no_non ⟨e, q⟩) (fun _ _ _ _ q => wpAny_of_eq (rfl : isSame (.ref d) .none = pure false) q) hu
theorem ea_bl_d (b : Bool) : SeqAt.EqAt A s (.bool b) (.ref d) false := by
  obtain ⟨dd, es, ep, sl, e⟩ := id hd
  exact eqAt_mute (by (intro prog w E Q q; unfold eqBool; refine wpAny_holding (wpAny_ite_split (fun hab => absurd (eq_of_beq hab) nofun) fun _ => wpAny_bind q))) rfl hd.ty (by decide) F.sub_dict_bool F.slot_bool_eq F.slot_dict_eq_refl (fun _ _ _ _ q => call_meets F.slot_bool_eq rfl F.entry_int_eq (F.args_int_eq_2 _ _) (no_bl b) ⟨e, q⟩) (dict_mute hd rfl F.sub_bool_dict) (fun _ _ _ _ q => wpAny_of_eq (rfl : isSame (.bool b) (.ref d) = pure false) q) hu
theorem ea_d_bl (b : Bool) : SeqAt.EqAt A s (.ref d) (.bool b) false := by
  obtain ⟨dd, es, ep, sl, e⟩ := id hd
  exact eqAt_mute (by (intro prog w E Q q; unfold eqBool; refine wpAny_holding (wpAny_ite_split (fun hab => absurd (eq_of_beq hab) nofun) fun _ => wpAny_bind q))) hd.ty rfl (by decide) F.sub_bool_dict F.slot_dict_eq F.slot_bool_eq_refl (dict_mute hd rfl F.sub_bool_dict) (fun _ _ _ _ q => call_meets F.slot_bool_eq_refl rfl F.entry_int_eq (F.args_int_eq_2 _ _) (no_bl b) ⟨e, q⟩) (fun _ _ _ _ q => wpAny_of_eq (rfl : isSame (.ref d) (.bool b) = pure false) q) hu
theorem ea_int_d (b : Int) (t : Tok) : SeqAt.EqAt A s (.int b t) (.ref d) false := by
  obtain ⟨dd, es, ep, sl, e⟩ := id hd
  exact eqAt_mute (by (intro prog w E Q q; unfold eqBool; refine wpAny_holding (wpAny_ite_split (fun hab => absurd (eq_of_beq hab) nofun) fun _ => wpAny_bind q))) (typeIs_int s b t) hd.ty (by decide) F.sub_dict_int F.slot_int_eq F.slot_dict_eq_refl (fun _ _ _ _ q => call_meets F.slot_int_eq (typeIs_int s b t) F.entry_int_eq (F.args_int_eq_2 _ _) (no_int b t) ⟨e, q⟩) (dict_mute hd (typeIs_int s b t) F.sub_int_dict) (fun _ _ _ _ q => wpAny_of_eq (rfl : isSame (.int b t) (.ref d) = pure false) q) hu
theorem ea_d_int (b : Int) (t : Tok) : SeqAt.EqAt A s (.ref d) (.int b t) false := by
  obtain ⟨dd, es, ep, sl, e⟩ := id hd
  exact eqAt_mute (by (intro prog w E Q q; unfold eqBool; refine wpAny_holding (wpAny_ite_split (fun hab => absurd (eq_of_beq hab) nofun) fun _ => wpAny_bind q))) hd.ty (typeIs_int s b t) (by decide) F.sub_int_dict F.slot_dict_eq F.slot_int_eq_refl (dict_mute hd (typeIs_int s b t) F.sub_int_dict) (fun _ _ _ _ q => call_meets F.slot_int_eq_refl (typeIs_int s b t) F.entry_int_eq (F.args_int_eq_2 _ _) (no_int b t) ⟨e, q⟩) (fun _ _ _ _ q => wpAny_of_eq (rfl : isSame (.ref d) (.int b t) = pure false) q) hu
theorem ea_str_d (b : Str) (t : Tok) : SeqAt.EqAt A s (.str b t) (.ref d) false := by
  obtain ⟨dd, es, ep, sl, e⟩ := id hd
  exact eqAt_mute (by (intro prog w E Q q; unfold eqBool; refine wpAny_holding (wpAny_ite_split (fun hab => absurd (eq_of_beq hab) nofun) fun _ => wpAny_bind q))) (typeIs_str s b t) hd.ty (by decide) F.sub_dict_str F.slot_str_eq F.slot_dict_eq_refl (fun _ _ _ _ q => call_meets F.slot_str_eq (typeIs_str s b t) F.entry_str_eq (F.args_str_eq_2 _ _) (no_str b t) ⟨e, q⟩) (dict_mute hd (typeIs_str s b t) F.sub_str_dict) (fun _ _ _ _ q => wpAny_of_eq (rfl : isSame (.str b t) (.ref d) = pure false) q) hu
theorem ea_d_str (b : Str) (t : Tok) : SeqAt.EqAt A s (.ref d) (.str b t) false := by
  obtain ⟨dd, es, ep, sl, e⟩ := id hd
  exact eqAt_mute (by (intro prog w E Q q; unfold eqBool; refine wpAny_holding (wpAny_ite_split (fun hab => absurd (eq_of_beq hab) nofun) fun _ => wpAny_bind q))) hd.ty (typeIs_str s b t) (by decide) F.sub_str_dict F.slot_dict_eq F.slot_str_eq_refl (dict_mute hd (typeIs_str s b t) F.sub_str_dict) (fun _ _ _ _ q => call_meets F.slot_str_eq_refl (typeIs_str s b t) F.entry_str_eq (F.args_str_eq_2 _ _) (no_str b t) ⟨e, q⟩) (fun _ _ _ _ q => wpAny_of_eq (rfl : isSame (.ref d) (.str b t) = pure false) q) hu
theorem ea_lst_d {l : Addr} {its : Array Value} (hl : s.heap.IsList l its) : SeqAt.EqAt A s (.ref l) (.ref d) false := by
  obtain ⟨dd, es, ep, sl, e⟩ := id hd
  obtain ⟨⟨cls, d2, data, s2⟩, ho, hc, n, hdt⟩ := hl
  cases hc
  cases hdt
  have ne : l ≠ d := fun z => by rw [z, e] at ho; exact absurd (congrArg Obj.cls (Option.some.inj ho)) (by simp)
  refine eqAt_mute (fun prog w E Q q => ?_) (⟨_, ho, rfl⟩ : s.TypeIs (.ref l) "list") hd.ty (by decide) F.sub_dict_list F.slot_list_eq F.slot_dict_eq_refl (fun _ _ _ _ q => call_meets F.slot_list_eq ⟨_, ho, rfl⟩ F.entry_list_eq (F.args_list_eq_2 _ _) (no_lst l its n d2 s2) ⟨ho, e, q⟩) (dict_mute hd ⟨_, ho, rfl⟩ F.sub_list_dict) (fun _ _ _ _ q => SeqAt.wpAny_isSame_ref_other' ne ho e (by simp) q) hu
  unfold eqBool
  exact wpAny_holding (wpAny_ite_split (fun hab => absurd (by injection eq_of_beq hab) ne) fun _ => wpAny_bind q)
theorem ea_d_lst {l : Addr} {its : Array Value} (hl : s.heap.IsList l its) : SeqAt.EqAt A s (.ref d) (.ref l) false := by
  obtain ⟨dd, es, ep, sl, e⟩ := id hd
  obtain ⟨⟨cls, d2, data, s2⟩, ho, hc, n, hdt⟩ := hl
  cases hc
  cases hdt
  have ne : d ≠ l := fun z => by rw [← z, e] at ho; exact absurd (congrArg Obj.cls (Option.some.inj ho)) (by simp)
  refine eqAt_mute (fun prog w E Q q => ?_) hd.ty (⟨_, ho, rfl⟩ : s.TypeIs (.ref l) "list") (by decide) F.sub_list_dict F.slot_dict_eq F.slot_list_eq_refl (dict_mute hd ⟨_, ho, rfl⟩ F.sub_list_dict) (fun _ _ _ _ q => call_meets F.slot_list_eq_refl ⟨_, ho, rfl⟩ F.entry_list_eq (F.args_list_eq_2 _ _) (no_lst l its n d2 s2) ⟨ho, e, q⟩) (fun _ _ _ _ q => SeqAt.wpAny_isSame_ref_other' ne e ho (by simp) q) hu
  unfold eqBool
  exact wpAny_holding (wpAny_ite_split (fun hab => absurd (by injection eq_of_beq hab) ne) fun _ => wpAny_bind q)
theorem ea_tup_d {l : Addr} {its : Array Value} (hl : s.heap.IsTuple l its) : SeqAt.EqAt A s (.ref l) (.ref d) false := by
  obtain ⟨dd, es, ep, sl, e⟩ := id hd
  obtain ⟨⟨cls, d2, data, s2⟩, ho, hc, n, hdt⟩ := hl
  cases hc
  cases hdt
  have ne : l ≠ d := fun z => by rw [z, e] at ho; exact absurd (congrArg Obj.cls (Option.some.inj ho)) (by simp)
  refine eqAt_mute (fun prog w E Q q => ?_) (⟨_, ho, rfl⟩ : s.TypeIs (.ref l) "tuple") hd.ty (by decide) F.sub_dict_tuple F.slot_tuple_eq F.slot_dict_eq_refl (fun _ _ _ _ q => call_meets F.slot_tuple_eq ⟨_, ho, rfl⟩ F.entry_tuple_eq (F.args_tuple_eq_2 _ _) (no_tup l its n d2 s2) ⟨ho, e, q⟩) (dict_mute hd ⟨_, ho, rfl⟩ F.sub_tuple_dict) (fun _ _ _ _ q => SeqAt.wpAny_isSame_ref_other' ne ho e (by simp) q) hu
  unfold eqBool
  exact wpAny_holding (wpAny_ite_split (fun hab => absurd (by injection eq_of_beq hab) ne) fun _ => wpAny_bind q)
theorem ea_d_tup {l : Addr} {its : Array Value} (hl : s.heap.IsTuple l its) : SeqAt.EqAt A s (.ref d) (.ref l) false := by
  obtain ⟨dd, es, ep, sl, e⟩ := id hd
  obtain ⟨⟨cls, d2, data, s2⟩, ho, hc, n, hdt⟩ := hl
  cases hc
  cases hdt
  have ne : d ≠ l := fun z => by rw [← z, e] at ho; exact absurd (congrArg Obj.cls (Option.some.inj ho)) (by simp)
  refine eqAt_mute (fun prog w E Q q => ?_) hd.ty (⟨_, ho, rfl⟩ : s.TypeIs (.ref l) "tuple") (by decide) F.sub_tuple_dict F.slot_dict_eq F.slot_tuple_eq_refl (dict_mute hd ⟨_, ho, rfl⟩ F.sub_tuple_dict) (fun _ _ _ _ q => call_meets F.slot_tuple_eq_refl ⟨_, ho, rfl⟩ F.entry_tuple_eq (F.args_tuple_eq_2 _ _) (no_tup l its n d2 s2) ⟨ho, e, q⟩) (fun prog w E Q q => ?_) hu
  · unfold eqBool
    exact wpAny_holding (wpAny_ite_split (fun hab => absurd (by injection eq_of_beq hab) ne) fun _ => wpAny_bind q)
  · exact PySem.wpAny_isSame_ref_other ne e ho (by simp) q
end


theorem ea_kinds {s : Shared} {A : Around} (hu : A.units < cLine) {v u : Value} {i j : Nat} (h1 : KD s v i) (h2 : KD s u j) (ne : i ≠ j) (nb : ¬ (i = 1 ∧ j = 2)) (nb' : ¬ (i = 2 ∧ j = 1)) : SeqAt.EqAt A s v u false :=
  match h1, h2 with
  | .non, .non => absurd rfl ne
  | .non, .bl b2 => SeqAt.EqAt.none_bool b2
  | .non, .int b2 t2 => SeqAt.EqAt.none_int b2 t2
  | .non, .str b2 t2 => SeqAt.EqAt.none_str b2 t2
  | .non, .lst q2 => SeqAt.EqAt.none_list q2 hu
  | .non, .tup q2 => SeqAt.EqAt.none_tuple q2 hu
  | .non, .dic q2 => ea_non_d q2 hu 
  | .bl b1, .non => SeqAt.EqAt.bool_none b1
  | .bl b1, .bl b2 => absurd rfl ne
  | .bl b1, .int b2 t2 => absurd ⟨rfl, rfl⟩ nb
  | .bl b1, .str b2 t2 => SeqAt.EqAt.bool_str b1 b2 t2
  | .bl b1, .lst q2 => SeqAt.EqAt.bool_list b1 q2 hu
  | .bl b1, .tup q2 => SeqAt.EqAt.bool_tuple b1 q2 hu
  | .bl b1, .dic q2 => ea_bl_d q2 hu b1
  | .int b1 t1, .non => SeqAt.EqAt.int_none b1 t1
  | .int b1 t1, .bl b2 => absurd ⟨rfl, rfl⟩ nb'
  | .int b1 t1, .int b2 t2 => absurd rfl ne
  | .int b1 t1, .str b2 t2 => SeqAt.EqAt.int_str b1 t1 b2 t2
  | .int b1 t1, .lst q2 => SeqAt.EqAt.int_list b1 t1 q2 hu
  | .int b1 t1, .tup q2 => SeqAt.EqAt.int_tuple b1 t1 q2 hu
  | .int b1 t1, .dic q2 => ea_int_d q2 hu b1 t1
  | .str b1 t1, .non => SeqAt.EqAt.str_none b1 t1
  | .str b1 t1, .bl b2 => SeqAt.EqAt.str_bool b1 t1 b2
  | .str b1 t1, .int b2 t2 => SeqAt.EqAt.str_int b1 t1 b2 t2
  | .str b1 t1, .str b2 t2 => absurd rfl ne
  | .str b1 t1, .lst q2 => SeqAt.EqAt.str_list b1 t1 q2 hu
  | .str b1 t1, .tup q2 => SeqAt.EqAt.str_tuple b1 t1 q2 hu
  | .str b1 t1, .dic q2 => ea_str_d q2 hu b1 t1
  | .lst q1, .non => SeqAt.EqAt.list_none q1 hu
  | .lst q1, .bl b2 => SeqAt.EqAt.list_bool b2 q1 hu
  | .lst q1, .int b2 t2 => SeqAt.EqAt.list_int b2 t2 q1 hu
  | .lst q1, .str b2 t2 => SeqAt.EqAt.list_str b2 t2 q1 hu
  | .lst q1, .lst q2 => absurd rfl ne
  | .lst q1, .tup q2 => SeqAt.EqAt.list_tuple q1 q2 hu
  | .lst q1, .dic q2 => ea_lst_d q2 hu q1
  | .tup q1, .non => SeqAt.EqAt.tuple_none q1 hu
  | .tup q1, .bl b2 => SeqAt.EqAt.tuple_bool b2 q1 hu
  | .tup q1, .int b2 t2 => SeqAt.EqAt.tuple_int b2 t2 q1 hu
  | .tup q1, .str b2 t2 => SeqAt.EqAt.tuple_str b2 t2 q1 hu
  | .tup q1, .lst q2 => SeqAt.EqAt.tuple_list q1 q2 hu
  | .tup q1, .tup q2 => absurd rfl ne
  | .tup q1, .dic q2 => ea_tup_d q2 hu q1
  | .dic q1, .non => ea_d_non q1 hu 
  | .dic q1, .bl b2 => ea_d_bl q1 hu b2
  | .dic q1, .int b2 t2 => ea_d_int q1 hu b2 t2
  | .dic q1, .str b2 t2 => ea_d_str q1 hu b2 t2
  | .dic q1, .lst q2 => ea_d_lst q1 hu q2
  | .dic q1, .tup q2 => ea_d_tup q1 hu q2
  | .dic q1, .dic q2 => absurd rfl ne
def eqFs (f : Dat → Dat → Option Bool) : List Dat → List Dat → Option Bool
  | [], [] => some true
  | a :: as, b :: bs => (f a b).bind fun x => (eqFs f as bs).map fun y => x && y
  | _, _ => some false
def kdT : Dat → Option Nat
  | .non => some 0
  | .bl _ => some 1
  | .int _ => some 2
  | .str _ => some 3
  | .lst _ => some 4
  | .tup _ => some 5
  | .dic _ _ => some 6
  | _ => none
def eqF : Nat → Dat → Dat → Option Bool
  | 0, _, _ => none
  | n + 1, d, e => match d, e with
    | .non, .non => some true
    | .bl a, .bl b => some (a == b)
    | .int a, .int b => some (a == b)
    | .str a, .str b => some (a == b)
    | .bl a, .int b => some ((if a then 1 else 0) == b)
    | .int a, .bl b => some (a == (if b then 1 else 0))
    | .tup xs, .tup ys => eqFs (eqF n) xs ys
    | .lst xs, .lst ys => eqFs (eqF n) xs ys
    | d, e => (kdT d).bind fun i => (kdT e).bind fun j => if i = j then none else some false
section
variable {X : Cx} {pins : List (Addr × Obj)} {σ : L2.St} {H : Hp} {s : Shared} {Z : Cz} {p : Pl}
theorem kd_of (I : Inv X pins σ H s) (hK : X.K = Z.K) {d : Dat} {i : Nat} {x : V} {v : Value} (h : IsD Z H p x d) (e : kdT d = some i) (r : RelV x v) : KD s v i := by
  cases d with
  | non => cases e; rw [isD_non.mp h] at r; cases r; exact .non
  | bl b => cases e; rw [isD_bl.mp h] at r; cases r; exact .bl b
  | int b => cases e; rw [isD_int.mp h] at r; obtain ⟨t, rfl⟩ := r; exact .int b t
  | str b => cases e; rw [isD_str.mp h] at r; obtain ⟨t, rfl⟩ := r; exact .str b t
  | lst ds =>
    cases e
    obtain ⟨a, vs, rfl, h1, _⟩ := isD_lst.mp h
    cases (show v = Value.ref a from r)
    have h1 := h1.sq
    rw [← hK] at h1
    obtain ⟨its, _, q, _⟩ := I.list h1
    exact .lst q.isList
  | tup ds =>
    cases e
    obtain ⟨a, vs, rfl, h1, _⟩ := isD_tup.mp h
    cases (show v = Value.ref a from r)
    have h1 := h1.sq
    rw [← hK] at h1
    obtain ⟨its, _, q, _⟩ := I.tuple h1
    exact .tup q
  | dic ks ds =>
    cases e
    obtain ⟨a, vs, rfl, h1, _⟩ := isD_dic.mp h
    cases (show v = Value.ref a from r)
    obtain ⟨_, _, ws, _, o, es, ep, ho, hx, hdt, _⟩ := dk_of I.hok h1.1
    refine .dic ?_
    obtain ⟨cls, dd, data, sl⟩ := o
    have hc : cls = .type "dict" := hx.1
    cases hc
    cases hdt
    exact ⟨dd, es, ep, sl, ho⟩
  | _ => cases e
theorem eqFs_same (I : Inv X pins σ H s) (hK : X.K = Z.K) {f : Dat → Dat → Option Bool} (ih : ∀ (d e : Dat) (x : V) (c : Bool), IsD Z H p x d → IsD Z H p x e → f d e = some c → c = true) : ∀ {ds es : List Dat} {vs : List V} {c : Bool}, IsDs Z H p vs ds → IsDs Z H p vs es → eqFs f ds es = some c → c = true
  | [], [], _, _, _, _, e => by cases e; rfl
  | [], _ :: _, vs, _, h, g, _ => by rw [isDs_nil.mp h] at g; obtain ⟨_, _, z, _⟩ := isDs_cons.mp g; cases z
  | _ :: _, [], vs, _, h, g, _ => by rw [isDs_nil.mp g] at h; obtain ⟨_, _, z, _⟩ := isDs_cons.mp h; cases z
  | a :: ds, b :: es, vs, c, h, g, e => by
    obtain ⟨v, r, rfl, h1, h2⟩ := isDs_cons.mp h
    obtain ⟨v', r', z, g1, g2⟩ := isDs_cons.mp g
    cases z
    unfold eqFs at e
    cases q1 : f a b with
    | none => rw [q1] at e; cases e
    | some x =>
      cases q2 : eqFs f ds es with
      | none => rw [q1, q2] at e; cases e
      | some y =>
        rw [q1, q2] at e
        cases e
        rw [ih _ _ _ _ h1 g1 q1, eqFs_same I hK ih h2 g2 q2]
        rfl
end
end Zd

namespace Zd
open PySem PySem.Spec PyProof.Rows L2
section
variable {X : Cx} {pins : List (Addr × Obj)} {σ : L2.St} {H : Hp} {s : Shared} {Z : Cz} {p : Pl}
theorem ref_vals {vs us : List V} (h : vs = us) : vs = us := h
theorem eqF_same (I : Inv X pins σ H s) (hK : X.K = Z.K) : ∀ (n : Nat) (d e : Dat) (x : V) (c : Bool), IsD Z H p x d → IsD Z H p x e → eqF n d e = some c → c = true
  | 0, _, _, _, _, _, _, q => by cases q
  | n + 1, d, e, x, c, h, g, q => by
    cases d with
    | non =>
      have hx := isD_non.mp h
      subst hx
      cases e with
      | non => cases q; rfl
      | bl _ => cases isD_bl.mp g
      | int _ => cases isD_int.mp g
      | str _ => cases isD_str.mp g
      | lst _ => obtain ⟨_, _, z, _⟩ := isD_lst.mp g; cases z
      | tup _ => obtain ⟨_, _, z, _⟩ := isD_tup.mp g; cases z
      | dic _ _ => obtain ⟨_, _, z, _⟩ := isD_dic.mp g; cases z
      | _ => cases q
    | bl b =>
      have hx := isD_bl.mp h
      subst hx
      cases e with
      | bl _ => cases isD_bl.mp g; cases q; exact beq_self_eq_true _
      | non => cases isD_non.mp g
      | int _ => cases isD_int.mp g
      | str _ => cases isD_str.mp g
      | lst _ => obtain ⟨_, _, z, _⟩ := isD_lst.mp g; cases z
      | tup _ => obtain ⟨_, _, z, _⟩ := isD_tup.mp g; cases z
      | dic _ _ => obtain ⟨_, _, z, _⟩ := isD_dic.mp g; cases z
      | _ => cases q
    | int b =>
      have hx := isD_int.mp h
      subst hx
      cases e with
      | int _ => cases isD_int.mp g; cases q; exact beq_self_eq_true _
      | non => cases isD_non.mp g
      | bl _ => cases isD_bl.mp g
      | str _ => cases isD_str.mp g
      | lst _ => obtain ⟨_, _, z, _⟩ := isD_lst.mp g; cases z
      | tup _ => obtain ⟨_, _, z, _⟩ := isD_tup.mp g; cases z
      | dic _ _ => obtain ⟨_, _, z, _⟩ := isD_dic.mp g; cases z
      | _ => cases q
    | str b =>
      have hx := isD_str.mp h
      subst hx
      cases e with
      | str _ => cases isD_str.mp g; cases q; exact beq_self_eq_true _
      | non => cases isD_non.mp g
      | bl _ => cases isD_bl.mp g
      | int _ => cases isD_int.mp g
      | lst _ => obtain ⟨_, _, z, _⟩ := isD_lst.mp g; cases z
      | tup _ => obtain ⟨_, _, z, _⟩ := isD_tup.mp g; cases z
      | dic _ _ => obtain ⟨_, _, z, _⟩ := isD_dic.mp g; cases z
      | _ => cases q
    | tup ds =>
      obtain ⟨a, vs, rfl, h1, h2⟩ := isD_tup.mp h
      have h1 := h1.sq
      rw [← hK] at h1
      cases e with
      | tup es =>
        obtain ⟨b, ws, z, g1, g2⟩ := isD_tup.mp g
        cases z
        have g1 := g1.sq
        rw [← hK] at g1
        rw [I.tuple_inj g1 h1] at g2
        exact eqFs_same I hK (fun d e x c => eqF_same I hK n d e x c) h2 g2 q
      | lst es =>
        obtain ⟨b, ws, z, g1, g2⟩ := isD_lst.mp g
        cases z
        have g1 := g1.sq
        rw [← hK] at g1
        obtain ⟨i1, _, q1, _⟩ := I.list g1
        obtain ⟨i2, _, q2, _⟩ := I.tuple h1
        exact absurd rfl (SeqAt.ne_of_list_tuple q1.isList q2)
      | dic ks es =>
        have k1 := kd_of I hK g rfl (rfl : RelV (.ref a) (.ref a))
        have k2 := kd_of I hK h rfl (rfl : RelV (.ref a) (.ref a))
        cases k1 with
        | dic hd =>
          cases k2 with
          | tup ht =>
            obtain ⟨_, _, _, _, e1⟩ := hd
            obtain ⟨o, e2, c2, _⟩ := ht
            rw [e1] at e2
            cases e2
            exact absurd c2 (by simp)
      | non => cases isD_non.mp g
      | bl _ => cases isD_bl.mp g
      | int _ => cases isD_int.mp g
      | str _ => cases isD_str.mp g
      | _ => cases q
    | lst ds =>
      obtain ⟨a, vs, rfl, h1, h2⟩ := isD_lst.mp h
      have h1 := h1.sq
      rw [← hK] at h1
      cases e with
      | lst es =>
        obtain ⟨b, ws, z, g1, g2⟩ := isD_lst.mp g
        cases z
        have g1 := g1.sq
        rw [← hK] at g1
        rw [I.list_inj g1 h1] at g2
        exact eqFs_same I hK (fun d e x c => eqF_same I hK n d e x c) h2 g2 q
      | tup es =>
        obtain ⟨b, ws, z, g1, g2⟩ := isD_tup.mp g
        cases z
        have g1 := g1.sq
        rw [← hK] at g1
        obtain ⟨i1, _, q1, _⟩ := I.list h1
        obtain ⟨i2, _, q2, _⟩ := I.tuple g1
        exact absurd rfl (SeqAt.ne_of_list_tuple q1.isList q2)
      | dic ks es =>
        have k1 := kd_of I hK g rfl (rfl : RelV (.ref a) (.ref a))
        have k2 := kd_of I hK h rfl (rfl : RelV (.ref a) (.ref a))
        cases k1 with
        | dic hd =>
          cases k2 with
          | lst ht =>
            obtain ⟨_, _, _, _, e1⟩ := hd
            obtain ⟨o, e2, c2, _⟩ := ht
            rw [e1] at e2
            cases e2
            exact absurd c2 (by simp)
      | non => cases isD_non.mp g
      | bl _ => cases isD_bl.mp g
      | int _ => cases isD_int.mp g
      | str _ => cases isD_str.mp g
      | _ => cases q
    | dic ks ds =>
      obtain ⟨a, vs, rfl, h1, _⟩ := isD_dic.mp h
      have kh := kd_of I hK h rfl (rfl : RelV (.ref a) (.ref a))
      cases e with
      | tup es =>
        have k2 := kd_of I hK g rfl (rfl : RelV (.ref a) (.ref a))
        cases kh with
        | dic hd =>
          cases k2 with
          | tup ht =>
            obtain ⟨_, _, _, _, e1⟩ := hd
            obtain ⟨o, e2, c2, _⟩ := ht
            rw [e1] at e2
            cases e2
            exact absurd c2 (by simp)
      | lst es =>
        have k2 := kd_of I hK g rfl (rfl : RelV (.ref a) (.ref a))
        cases kh with
        | dic hd =>
          cases k2 with
          | lst ht =>
            obtain ⟨_, _, _, _, e1⟩ := hd
            obtain ⟨o, e2, c2, _⟩ := ht
            rw [e1] at e2
            cases e2
            exact absurd c2 (by simp)
      | non => cases isD_non.mp g
      | bl _ => cases isD_bl.mp g
      | int _ => cases isD_int.mp g
      | str _ => cases isD_str.mp g
      | _ => cases q
    | _ => cases e <;> cases q
end
end Zd

namespace Zd
open PySem PySem.Spec PyProof.Rows L2
def evF (f : Dat → Dat → Option Bool) (ds es : List Dat) (j : Nat) : Bool := match ds[j]?, es[j]? with
  | some d, some e => (f d e).getD false
  | _, _ => true
theorem eqFs_all {f : Dat → Dat → Option Bool} : ∀ {ds es : List Dat} {c : Bool}, eqFs f ds es = some c → (∀ (j : Nat) (d e : Dat), ds[j]? = some d → es[j]? = some e → f d e = some (evF f ds es j)) ∧ c = ((List.range (min ds.length es.length)).all (evF f ds es) && ds.length == es.length)
  | [], [], c, h => by cases h; exact ⟨fun j d e z => by simp at z, rfl⟩
  | [], _ :: _, c, h => by cases h; exact ⟨fun j d e z => by simp at z, rfl⟩
  | _ :: _, [], c, h => by cases h; exact ⟨fun j d e _ z => by simp at z, rfl⟩
  | a :: ds, b :: es, c, h => by
    unfold eqFs at h
    cases q1 : f a b with
    | none => rw [q1] at h; cases h
    | some x =>
      cases q2 : eqFs f ds es with
      | none => rw [q1, q2] at h; cases h
      | some y =>
        rw [q1, q2] at h
        cases h
        obtain ⟨k1, k2⟩ := eqFs_all q2
        refine ⟨fun j d e z1 z2 => ?_, ?_⟩
        · cases j with
          | zero =>
            simp only [List.getElem?_cons_zero, Option.some.injEq] at z1 z2
            subst z1 z2
            unfold evF
            simp only [List.getElem?_cons_zero]
            rw [q1]
            rfl
          | succ j =>
            simp only [List.getElem?_cons_succ] at z1 z2
            have := k1 j d e z1 z2
            unfold evF at this ⊢
            simp only [List.getElem?_cons_succ]
            exact this
        · rw [List.length_cons, List.length_cons, Nat.add_min_add_right, List.range_succ_eq_map, List.all_cons, List.all_map, k2]
          have e0 : evF f (a :: ds) (b :: es) 0 = x := by unfold evF; simp only [List.getElem?_cons_zero]; rw [q1]; rfl
          have e1 : (evF f (a :: ds) (b :: es) ∘ Nat.succ) = evF f ds es := by funext j; show evF f (a :: ds) (b :: es) (j + 1) = _; unfold evF; simp only [List.getElem?_cons_succ]
          rw [e0, e1, Bool.and_assoc]
          congr 2
          cases hh : ds.length == es.length with
          | true => rw [beq_iff_eq] at hh; rw [hh]; simp
          | false => symm; rw [beq_eq_false_iff_ne] at hh ⊢; omega
section
variable {X : Cx} {pins : List (Addr × Obj)} {σ : L2.St} {H : Hp} {s : Shared} {Z : Cz} {p : Pl}
theorem item_of {vs : List V} {its : List Value} {ds : List Dat} (rv : Vals vs its) (h : IsDs Z H p vs ds) {j : Nat} (lt : j < its.length) : ∃ x d, RelV x its[j] ∧ ds[j]? = some d ∧ IsD Z H p x d := by
  have l1 := rv.length
  have l2 := h.len
  have lt2 : j < ds.length := by omega
  obtain ⟨x, g1, g2⟩ := h.get (List.getElem?_eq_getElem lt2)
  obtain ⟨u, k1, k2⟩ := rv.get g1
  rw [List.getElem?_eq_getElem lt] at k1
  cases k1
  exact ⟨x, _, k2, List.getElem?_eq_getElem lt2, g2⟩
theorem tup_at (I : Inv X pins σ H s) (hK : X.K = Z.K) {f : Dat → Dat → Option Bool} {A : Around} (hu : A.units < cLine) (ih : ∀ (d e : Dat) (c : Bool) (x y : V) (v u : Value), f d e = some c → IsD Z H p x d → IsD Z H p y e → RelV x v → RelV y u → SeqAt.EqAt A.in1 s v u c) {ds es : List Dat} {a b : Addr} {vs ws : List V} {c : Bool} (ha : SqT X.K H a vs) (hb : SqT X.K H b ws) (h1 : IsDs Z H p vs ds) (h2 : IsDs Z H p ws es) (q : eqFs f ds es = some c) : SeqAt.RcAt A s (.ref a) (.ref b) c := by
  obtain ⟨i1, r1, p1, _⟩ := I.tuple ha
  obtain ⟨i2, r2, p2, _⟩ := I.tuple hb
  obtain ⟨k1, k2⟩ := eqFs_all q
  have l1 : i1.toArray.size = ds.length := by rw [List.size_toArray, ← r1.length, h1.len]
  have l2 : i2.toArray.size = es.length := by rw [List.size_toArray, ← r2.length, h2.len]
  rw [k2, ← l1, ← l2]
  refine SeqAt.RcAt.tuples p1 p2 hu fun j j1 j2 => ?_
  obtain ⟨x, d, g1, g2, g3⟩ := item_of r1 h1 (by simpa using j1)
  obtain ⟨y, e, g4, g5, g6⟩ := item_of r2 h2 (by simpa using j2)
  exact ih d e _ x y _ _ (k1 j d e g2 g5) g3 g6 (by simpa using g1) (by simpa using g4)
theorem lst_at (I : Inv X pins σ H s) (hK : X.K = Z.K) {f : Dat → Dat → Option Bool} {A : Around} (hu : A.units < cLine) (ih : ∀ (d e : Dat) (c : Bool) (x y : V) (v u : Value), f d e = some c → IsD Z H p x d → IsD Z H p y e → RelV x v → RelV y u → SeqAt.EqAt A.in1 s v u c) {ds es : List Dat} {a b : Addr} {vs ws : List V} {c : Bool} (ha : SqL X.K H a vs) (hb : SqL X.K H b ws) (h1 : IsDs Z H p vs ds) (h2 : IsDs Z H p ws es) (q : eqFs f ds es = some c) : SeqAt.RcAt A s (.ref a) (.ref b) c := by
  obtain ⟨i1, r1, p1, _⟩ := I.list ha
  obtain ⟨i2, r2, p2, _⟩ := I.list hb
  obtain ⟨k1, k2⟩ := eqFs_all q
  have l1 : i1.toArray.size = ds.length := by rw [List.size_toArray, ← r1.length, h1.len]
  have l2 : i2.toArray.size = es.length := by rw [List.size_toArray, ← r2.length, h2.len]
  by_cases sz : ds.length = es.length
  · have e : c = (List.range i1.toArray.size).all (evF f ds es) := by rw [k2, l1, sz, Nat.min_self]; simp
    rw [e]
    refine SeqAt.RcAt.lists p1.isList p2.isList (by rw [l1, l2, sz]) hu fun j j1 j2 => ?_
    obtain ⟨x, d, g1, g2, g3⟩ := item_of r1 h1 (by simpa using j1)
    obtain ⟨y, e, g4, g5, g6⟩ := item_of r2 h2 (by simpa using j2)
    exact ih d e _ x y _ _ (k1 j d e g2 g5) g3 g6 (by simpa using g1) (by simpa using g4)
  · have e : c = false := by rw [k2, beq_eq_false_iff_ne.mpr sz, Bool.and_false]
    rw [e]
    exact SeqAt.RcAt.lists_lengths p1.isList p2.isList (by rw [l1, l2]; simpa using sz) hu
theorem eqF_at (I : Inv X pins σ H s) (hK : X.K = Z.K) : ∀ (n : Nat) (A : Around), A.units + n < cLine → ∀ (d e : Dat) (c : Bool) (x y : V) (v u : Value), eqF n d e = some c → IsD Z H p x d → IsD Z H p y e → RelV x v → RelV y u → SeqAt.EqAt A s v u c
  | 0, _, _, _, _, _, _, _, _, _, q, _, _, _, _ => by cases q
  | n + 1, A, hu, d, e, c, x, y, v, u, q, hx, hy, rx, ry => by
    have hu1 : A.units < cLine := by omega
    have kinds : ∀ i j, kdT d = some i → kdT e = some j → i ≠ j → ¬ (i = 1 ∧ j = 2) → ¬ (i = 2 ∧ j = 1) → SeqAt.EqAt A s v u false := fun i j h1 h2 n1 n2 n3 => ea_kinds hu1 (kd_of I hK hx h1 rx) (kd_of I hK hy h2 ry) n1 n2 n3
    have ih := fun (d e : Dat) (c : Bool) (x y : V) (v u : Value) => eqF_at I hK n A.in1 (by show A.units + 1 + n < cLine; omega) d e c x y v u
    by_cases tt : ∃ ds es, d = .tup ds ∧ e = .tup es
    · obtain ⟨ds, es, rfl, rfl⟩ := tt
      have same := eqF_same (p := p) I hK (n + 1) (.tup ds) (.tup es)
      obtain ⟨a, vs, rfl, h1, h2⟩ := isD_tup.mp hx
      obtain ⟨b, ws, rfl, g1, g2⟩ := isD_tup.mp hy
      cases (show v = Value.ref a from rx)
      cases (show u = Value.ref b from ry)
      by_cases ab : a = b
      · subst ab
        rw [same _ _ hx hy q]
        exact SeqAt.EqAt.same _
      · have h1 := h1.sq
        have g1 := g1.sq
        rw [← hK] at h1 g1
        exact .of_refs ab (tup_at I hK hu1 ih h1 g1 h2 g2 q)
    by_cases ll : ∃ ds es, d = .lst ds ∧ e = .lst es
    · obtain ⟨ds, es, rfl, rfl⟩ := ll
      have same := eqF_same (p := p) I hK (n + 1) (.lst ds) (.lst es)
      obtain ⟨a, vs, rfl, h1, h2⟩ := isD_lst.mp hx
      obtain ⟨b, ws, rfl, g1, g2⟩ := isD_lst.mp hy
      cases (show v = Value.ref a from rx)
      cases (show u = Value.ref b from ry)
      by_cases ab : a = b
      · subst ab
        rw [same _ _ hx hy q]
        exact SeqAt.EqAt.same _
      · have h1 := h1.sq
        have g1 := g1.sq
        rw [← hK] at h1 g1
        exact .of_refs ab (lst_at I hK hu1 ih h1 g1 h2 g2 q)
    cases d with
    | non =>
      cases e with
      | non => cases q; have e1 := isD_non.mp hx; have e2 := isD_non.mp hy; subst e1 e2; cases rx; cases ry; exact .same _
      | _ => first | (cases q; done) | (cases q; exact kinds _ _ rfl rfl (by decide) (by decide) (by decide))
    | bl a =>
      have e1 := isD_bl.mp hx; subst e1; cases rx
      cases e with
      | bl b => cases q; have e2 := isD_bl.mp hy; subst e2; cases ry; exact .bool_bool a b
      | int b => cases q; have e2 := isD_int.mp hy; subst e2; obtain ⟨t, rfl⟩ := ry; exact .bool_int a b t
      | _ => first | (cases q; done) | (cases q; exact kinds _ _ rfl rfl (by decide) (by decide) (by decide))
    | int a =>
      have e1 := isD_int.mp hx; subst e1; obtain ⟨t, rfl⟩ := rx
      cases e with
      | int b => cases q; have e2 := isD_int.mp hy; subst e2; obtain ⟨t2, rfl⟩ := ry; exact .int_int a t b t2
      | bl b => cases q; have e2 := isD_bl.mp hy; subst e2; cases ry; exact .int_bool a t b
      | _ => first | (cases q; done) | (cases q; exact kinds _ _ rfl rfl (by decide) (by decide) (by decide))
    | str a =>
      have e1 := isD_str.mp hx; subst e1; obtain ⟨t, rfl⟩ := rx
      cases e with
      | str b => cases q; have e2 := isD_str.mp hy; subst e2; obtain ⟨t2, rfl⟩ := ry; exact .str_str a t b t2
      | _ => first | (cases q; done) | (cases q; exact kinds _ _ rfl rfl (by decide) (by decide) (by decide))
    | tup ds =>
      cases e with
      | tup es => exact absurd ⟨ds, es, rfl, rfl⟩ tt
      | _ => first | (cases q; done) | (cases q; exact kinds _ _ rfl rfl (by decide) (by decide) (by decide))
    | lst ds =>
      cases e with
      | lst es => exact absurd ⟨ds, es, rfl, rfl⟩ ll
      | _ => first | (cases q; done) | (cases q; exact kinds _ _ rfl rfl (by decide) (by decide) (by decide))
    | dic ks ds =>
      cases e with
      | _ => first | (cases q; done) | (cases q; exact kinds _ _ rfl rfl (by decide) (by decide) (by decide))
    | _ => cases e <;> cases q
end
/-! ### the operations -/
/-- tuples -/
def rEqT (Z : Cz) (neg : Bool) : R2 := fun x y H Q => ∃ (p : Pl) (ds es : List Dat) (c : Bool), IsD Z H p x (.tup ds) ∧ IsD Z H p y (.tup es) ∧ eqFs (eqF 60) ds es = some c ∧ Q (.bl (neg != c)) H
theorem op_eqT {X : Cx} {Z : Cz} (hu : X.A.units + 64 < cLine) (hK : X.K = Z.K) : OpR X (compareOp .Eq) (rEqT Z false) := by
  intro pins s σ H x y v u Q I rx ry ⟨p, ds, es, c, hx, hy, q, k⟩
  rw [Bool.false_bne] at k
  obtain ⟨a, vs, rfl, h1, h2⟩ := isD_tup.mp hx
  obtain ⟨b, ws, rfl, g1, g2⟩ := isD_tup.mp hy
  cases (show v = Value.ref a from rx)
  cases (show u = Value.ref b from ry)
  have h1 := h1.sq
  have g1 := g1.sq
  rw [← hK] at h1 g1
  exact tup_at I hK (by omega) (fun d e c x y v u => eqF_at I hK 60 X.A.in1 (by show X.A.units + 1 + 60 < cLine; omega) d e c x y v u) h1 g1 h2 g2 q X.prog X.w _ _ ⟨.bl c, H, I, rfl, k⟩
def dEqT (d e : Dat) : M Dat := match d, e with
  | .tup ds, .tup es => M.opt (eqFs (eqF 60) ds es) >>= fun c => pure (.bl (false != c))
  | _, _ => M.no
theorem r_eqT {Z : Cz} : JR Z (IsD Z) (IsD Z) (IsD Z) (rEqT Z false) dEqT := fun x y d e Er H p S Q hx hy s q => by
  unfold dEqT at q
  split at q
  · obtain ⟨c, e, q⟩ := q.opt
    exact ⟨p, _, _, c, hx, hy, e, q.pure xE s _ (isD_bl.mpr rfl)⟩
  · exact (bad_no (S := S) q).elim
/-- x in texts -/
def isS (w : Dat) (xs : List Str) : Bool := match w with
  | .str y => xs.any fun z => z == y
  | _ => false
def rInS (Z : Cz) (neg : Bool) : R2 := fun x y H Q => ∃ (p : Pl) (a : Addr) (d : Dat) (i : Nat) (xs : List Str), y = .ref a ∧ (SqT Z.K H a (xs.map V.str) ∨ SqL Z.K H a (xs.map V.str)) ∧ IsD Z H p x d ∧ kdT d = some i ∧ Q (.bl (neg != isS d xs)) H
def tokS (y : Value) (d : Dat) : Bool := match y, d with
  | .str z _, .str w => z == w
  | _, _ => false
theorem any_tok {d : Dat} : ∀ {xs : List Str} {us : List Value}, Vals (xs.map V.str) us → us.toArray.any (fun y => tokS y d) = isS d xs := by
  intro xs us r
  rw [List.any_toArray]
  induction xs generalizing us with
  | nil => cases r; cases d <;> rfl
  | cons x xs ih =>
    cases r with
    | cons h t =>
      obtain ⟨k, rfl⟩ := h
      rw [List.any_cons, ih t]
      cases d <;> first | rfl | simp [isS, tokS]
theorem tok_at {X : Cx} {pins : List (Addr × Obj)} {σ : L2.St} {H : Hp} {s : Shared} {Z : Cz} {p : Pl} (I : Inv X pins σ H s) (hK : X.K = Z.K) {A : Around} (hu : A.units < cLine) {d : Dat} {i : Nat} {x : V} {v : Value} (hx : IsD Z H p x d) (hi : kdT d = some i) (rx : RelV x v) {z : Str} {t : Tok} : SeqAt.EqAt A s (.str z t) v (tokS (.str z t) d) := by
  have k := kd_of I hK hx hi rx
  cases d with
  | str w =>
    have e1 := isD_str.mp hx
    subst e1
    obtain ⟨t2, rfl⟩ := rx
    exact .str_str z t w t2
  | _ => first | (cases hi; done) | (cases hi; exact ea_kinds hu (.str z t) k (by decide) (by decide) (by decide))
theorem op_inS {X : Cx} {Z : Cz} {neg : Bool} (hu : X.A.units + 70 < cLine) (hK : X.K = Z.K) : OpR X (compareOp (if neg then .NotIn else .In)) (rInS Z neg) := by
  intro pins s σ H x y v u Q I rx ry ⟨p, a, d, i, xs, ey, hy, hx, hi, k⟩
  subst ey
  cases (show u = Value.ref a from ry)
  have at_ : ∀ {us : List Value}, Vals (xs.map V.str) us → ∀ y, y ∈ us.toArray → SeqAt.EqAt X.A.in1 s y v (tokS y d) := fun {us} r y hm => by
    have hm : y ∈ us := by simpa using hm
    obtain ⟨j, lt, rfl⟩ := List.getElem_of_mem hm
    have lx : j < xs.length := by have := r.length; rw [List.length_map] at this; omega
    obtain ⟨w, g1, g2⟩ := r.get (i := j) (x := .str xs[j]) (by simp [lx])
    rw [List.getElem?_eq_getElem lt] at g1
    cases g1
    obtain ⟨t, e⟩ := (show ∃ t, us[j] = Value.str xs[j] t from g2)
    rw [e]
    exact tok_at I hK (by show X.A.units + 1 < cLine; omega) hx hi rx
  rcases hy with hy | hy
  · rw [← hK] at hy
    obtain ⟨its, rv, pt, _⟩ := I.tuple hy
    cases neg with
    | false =>
      refine SeqAt.in_tupleAt (fun y => tokS y d) pt (at_ rv) ?_
      rw [any_tok rv]
      rw [Bool.false_bne] at k
      exact ⟨.bl _, H, I, rfl, k⟩
    | true =>
      refine SeqAt.notIn_tupleAt (fun y => tokS y d) pt (at_ rv) ?_
      rw [any_tok rv]
      rw [Bool.true_bne] at k
      exact ⟨.bl _, H, I, rfl, k⟩
  · rw [← hK] at hy
    obtain ⟨its, rv, pt, _⟩ := I.list hy
    cases neg with
    | false =>
      refine SeqAt.in_listAt (fun y => tokS y d) pt.isList (at_ rv) ?_
      rw [any_tok rv]
      rw [Bool.false_bne] at k
      exact ⟨.bl _, H, I, rfl, k⟩
    | true =>
      refine SeqAt.notIn_listAt (fun y => tokS y d) pt.isList (at_ rv) ?_
      rw [any_tok rv]
      rw [Bool.true_bne] at k
      exact ⟨.bl _, H, I, rfl, k⟩
def dInS (neg : Bool) (d e : Dat) : M Dat := M.opt (kdT d) >>= fun _ => M.opt ((itemsOf e).bind strsD) >>= fun xs => pure (.bl (neg != isS d xs))
theorem r_inS {Z : Cz} {neg : Bool} : JR Z (IsD Z) (IsW Z) (IsD Z) (rInS Z neg) (dInS neg) := fun x y d e Er H p S Q hx hy s q => by
  obtain ⟨i, ei, q1⟩ := q.opt
  obtain ⟨xs, ex, q2⟩ := q1.opt
  clear q q1
  cases e with
  | tup ds =>
    have hy : IsD Z H p y (.tup ds) := hy
    obtain ⟨a, vs, rfl, h1, h2⟩ := isD_tup.mp hy
    have h1 := h1.sq
    rw [strsD_is h2 ex] at h1
    exact ⟨p, a, d, i, xs, rfl, .inl h1, hx, ei, q2.pure xE s _ (isD_bl.mpr rfl)⟩
  | lst ds =>
    obtain ⟨a, vs, rfl, h1, h2⟩ := hy
    have h1 := SqL.of (K := Z.K) h1.1
    rw [strsD_is h2 ex] at h1
    exact ⟨p, a, d, i, xs, rfl, .inr h1, hx, ei, q2.pure xE s _ (isD_bl.mpr rfl)⟩
  | _ => cases ex
end Zd

namespace Zd
open PySem PySem.Spec PyProof.Rows L2
/-! ### repr of trees with empty dicts, without lists -/
mutual
def toPyD : Dat → Option PyData
  | .non => some .none
  | .bl b => some (.bool b)
  | .int i => some (.int i)
  | .str x => some (.str x)
  | .tup ds => (toPysD ds).map .tuple
  | .dic ks _ => if ks.isEmpty then some (.dict []) else none
  | _ => none
def toPysD : List Dat → Option (List PyData)
  | [] => some []
  | d :: ds => (toPyD d).bind fun x => (toPysD ds).map (x :: ·)
end
section
variable {X : Cx} {pins : List (Addr × Obj)} {σ : L2.St} {H : Hp} {s : Shared} {Z : Cz} {p : Pl}
theorem d0_reads {a : Addr} (I : Inv X pins σ H s) (ea : H a = some (.dK [])) : ∃ as, Reads s.heap (.ref a) (.dict []) as ∧ sysModules ∉ as := by
  obtain ⟨_, nsm, vs, hkv, o, es, ep, ho, ⟨hc, _, _⟩, hdat, _, hp, _⟩ := (I.hok a _ ea : ObjOk X.prog X.w H s.heap a (.dK []))
  cases hkv
  have e0 : es.toList = [] := by
    generalize es.toList = l at hp
    cases hp
    rfl
  refine ⟨_, Reads.dict (as := []) (bs := []) ho hc hdat (by rw [e0]; exact .nil) (by rw [e0]; exact .nil), fun hm => ?_⟩
  rw [List.append_nil, List.mem_singleton] at hm
  rw [← hm] at nsm
  simp at nsm
mutual
theorem IsD.readsD (I : Inv X pins σ H s) (hK : X.K = Z.K) : ∀ (d : Dat) {v : V} {y : PyData} {u : Value}, IsD Z H p v d → toPyD d = some y → RelV v u → ∃ as, Reads s.heap u y as ∧ sysModules ∉ as
  | .non, _, _, _, h, e, r => by rw [toPyD] at e; cases e; rw [isD_non.mp h] at r; cases r; exact ⟨_, .none, List.not_mem_nil⟩
  | .bl b, _, _, _, h, e, r => by rw [toPyD] at e; cases e; rw [isD_bl.mp h] at r; cases r; exact ⟨_, .bool b, List.not_mem_nil⟩
  | .int i, _, _, _, h, e, r => by rw [toPyD] at e; cases e; rw [isD_int.mp h] at r; obtain ⟨t, rfl⟩ := r; exact ⟨_, .int i t, List.not_mem_nil⟩
  | .str x, _, _, _, h, e, r => by rw [toPyD] at e; cases e; rw [isD_str.mp h] at r; obtain ⟨t, rfl⟩ := r; exact ⟨_, .str x t, List.not_mem_nil⟩
  | .tup ds, _, y, u, h, e, r => by
    obtain ⟨a, vs, rfl, h1, h2⟩ := isD_tup.mp h
    cases (show u = Value.ref a from r)
    rw [toPyD] at e
    cases e2 : toPysD ds with
    | none => rw [e2] at e; cases e
    | some ys =>
      rw [e2] at e
      cases e
      have h1 := h1.sq
      rw [← hK] at h1
      obtain ⟨its, rv, ⟨o, eo, co, n, dn⟩, _⟩ := I.tuple h1
      obtain ⟨as, q, no⟩ := IsDs.readsD I hK ds h2 e2 rv
      exact ⟨_, .tuple eo co dn q, no⟩
  | .dic ks ds, _, _, u, h, e, r => by
    obtain ⟨a, vs, rfl, h1, hl, h2⟩ := isD_dic.mp h
    cases (show u = Value.ref a from r)
    rw [toPyD] at e
    cases ks with
    | nil => cases e; exact d0_reads I h1.1
    | cons _ _ => cases e
  | .lst _, _, _, _, _, e, _ => by rw [toPyD] at e <;> first | cases e | nofun
  | .obj _ _ _, _, _, _, _, e, _ => by rw [toPyD] at e <;> first | cases e | nofun
  | .loc _, _, _, _, _, e, _ => by rw [toPyD] at e <;> first | cases e | nofun
  | .ty _, _, _, _, _, e, _ => by rw [toPyD] at e <;> first | cases e | nofun
  | .cls _, _, _, _, _, e, _ => by rw [toPyD] at e <;> first | cases e | nofun
  | .scr _, _, _, _, _, e, _ => by rw [toPyD] at e <;> first | cases e | nofun
theorem IsDs.readsD (I : Inv X pins σ H s) (hK : X.K = Z.K) : ∀ (ds : List Dat) {vs : List V} {ys : List PyData} {us : List Value}, IsDs Z H p vs ds → toPysD ds = some ys → Vals vs us → ∃ as, ReadsAll s.heap us ys as ∧ sysModules ∉ as
  | [], _, _, _, h, e, r => by rw [toPysD] at e; cases e; rw [isDs_nil.mp h] at r; cases r; exact ⟨_, .nil, List.not_mem_nil⟩
  | d :: ds, _, ys, _, h, e, r => by
    obtain ⟨v, vr, rfl, h1, h2⟩ := isDs_cons.mp h
    rw [toPysD] at e
    cases e1 : toPyD d with
    | none => rw [e1] at e; cases e
    | some x =>
      cases e2 : toPysD ds with
      | none => rw [e1, e2] at e; cases e
      | some xs =>
        rw [e1, e2] at e
        cases e
        cases r with
        | cons r1 r2 =>
          obtain ⟨as, q1, n1⟩ := IsD.readsD I hK d h1 e1 r1
          obtain ⟨bs, q2, n2⟩ := IsDs.readsD I hK ds h2 e2 r2
          exact ⟨_, .cons q1 q2, fun hm => (List.mem_append.mp hm).elim n1 n2⟩
end
end
def okShowD (y : PyData) : Bool := y.showable && decide (y.depth ≤ 64) && decide (y.shown.length ≤ sizeLine)
def isRf : Dat → Bool
  | .tup _ => true
  | .dic _ _ => true
  | _ => false
theorem rf_is {H : Hp} {Z : Cz} {p : Pl} {d : Dat} {x : V} (h : IsD Z H p x d) (r : isRf d = true) : ∃ a, x = .ref a := by
  cases d with
  | tup _ => obtain ⟨a, _, e, _⟩ := isD_tup.mp h; exact ⟨a, e⟩
  | dic _ _ => obtain ⟨a, _, e, _⟩ := isD_dic.mp h; exact ⟨a, e⟩
  | _ => cases r
def rRepr2 (Z : Cz) : List V → Hp → VK → Prop := fun xs H Q => Zg.rReprD Z.K xs H Q ∨ ∃ (p : Pl) (d : Dat) (x : V) (y : PyData), xs = [x] ∧ IsD Z H p x d ∧ isRf d = true ∧ toPyD d = some y ∧ okShowD y = true ∧ Q (.str y.shown) H
theorem call_repr2 {X : Cx} {Z : Cz} (hg : Zg.Calm X.A) (hu : X.A.units + 70 < cLine) (hK : X.K = Z.K) : CallR X (.builtin "repr") (rRepr2 Z) := by
  intro pins s σ H xs us Q I r h
  rcases h with h | ⟨p, d, x, y, rfl, hx, rf, e, ok, q⟩
  · rw [← hK] at h
    exact Zg.call_reprD hg hu pins s σ H xs us Q I r h
  · unfold okShowD at ok
    simp only [Bool.and_eq_true, decide_eq_true_eq] at ok
    obtain ⟨u, rfl, rx⟩ := vals1 r
    obtain ⟨a, rfl⟩ := rf_is hx rf
    obtain ⟨as, rd, no⟩ := IsD.readsD I hK d hx e rx
    cases (show u = Value.ref a from rx)
    exact repr_of_reads' rd ok.1.1 (fun _ => no) hg (by omega) (fun _ _ e => e) (fun h' u tk hk => ⟨.str _, H, I.kept (t' := tk) hk, ⟨_, rfl⟩, q⟩) ok.2
def dRepr2 (ds : List Dat) : M Dat := match ds with
  | [d] => match toPy d with
    | some y => M.need (okShow y) >>= fun _ => pure (.str y.shown)
    | none => M.need (isRf d) >>= fun _ => M.opt (toPyD d) >>= fun y => M.need (okShowD y) >>= fun _ => pure (.str y.shown)
  | _ => M.no
theorem c_repr2 {Z : Cz} : JC Z (IsDs Z) (IsD Z) (rRepr2 Z) dRepr2 := fun x ds Er H p S Q hx s q => by
  match ds, hx, q with
  | [d], hx, q =>
    obtain ⟨v, rfl, hv⟩ := isDs_one hx
    cases e : toPy d with
    | some y =>
      have q : Post Z Er ExtE ((M.need (okShow y) >>= fun _ => pure (Dat.str y.shown)) S) H p (fun a _ H' p' => ∀ v, IsD Z H' p' v a → Q v H') := by
        unfold dRepr2 at q
        simp only [e] at q
        exact q
      obtain ⟨c, q⟩ := q.need
      unfold okShow at c
      simp only [Bool.and_eq_true, decide_eq_true_eq, Bool.not_eq_true'] at c
      refine .inl ⟨v, y, rfl, hv.dp _ e, c.1.1.1.1, c.1.1.1.2, c.1.1.2, c.1.2, fun i z => ?_, q.pure xE s _ (isD_str.mpr rfl)⟩
      subst z
      have hd := hv.dp _ e
      cases hd
      have c2 := c.2
      simp only [decide_eq_true_eq] at c2
      exact c2
    | none =>
      have q : Post Z Er ExtE ((M.need (isRf d) >>= fun _ => M.opt (toPyD d) >>= fun y => M.need (okShowD y) >>= fun _ => pure (Dat.str y.shown)) S) H p (fun a _ H' p' => ∀ v, IsD Z H' p' v a → Q v H') := by
        unfold dRepr2 at q
        simp only [e] at q
        exact q
      obtain ⟨c, q⟩ := q.need
      obtain ⟨y, ey, q⟩ := q.opt
      obtain ⟨c2, q⟩ := q.need
      exact .inr ⟨p, d, v, y, rfl, hv, c, ey, c2, q.pure xE s _ (isD_str.mpr rfl)⟩
  | [], _, q => exact (bad_no (S := S) q).elim
  | _ :: _ :: _, _, q => exact (bad_no (S := S) q).elim
end Zd

namespace Zd
open PySem PySem.Spec PyProof.Rows L2
/-! ### raise C(x) -/
def spIni (C : Addr) (f : Str) : Sp := fun vs H Q _ => ∃ (a : Addr) (v : V), vs = [.ref a, v] ∧ H a = some (exo a C none) ∧ ∀ dx, H dx = none → dx ≠ a → Q .non (upd (upd H dx (exd dx [(f, v)])) a (exo a C (some dx)))
theorem rd_ini {C : Addr} {f : Str} {H : Hp} {Q : XK} {E : XK} {v : V} (k : ∀ d H', H d = none → Same H H' → H' d = some (.xd [(f, v)]) → Q (.ref C) (some d) H') :
    [v].length ≤ 1000 ∧ ∀ a, H a = none → spIni C f (.ref a :: ([v] ++ [])) (upd H a (exo a C none)) (fun u H2 => u = .non ∧ ∃ (d : Addr) (fs : List (Str × V)), H2 a = some (exo a C (some d)) ∧ H2 d = some (exd d fs) ∧ H d = none ∧ Q (.ref C) (some d) (upd (del H2 a) d (.xd fs))) E := by
  refine ⟨Nat.le_of_ble_eq_true rfl, fun a na => ⟨a, v, rfl, upd_same, fun dx nd ne => ?_⟩⟩
  have nd' : H dx = none := (upd_ne ne).symm.trans nd
  refine ⟨rfl, dx, _, upd_same, (upd_ne ne).trans upd_same, nd', k dx _ nd' (fun b o e => ?_) upd_same⟩
  have n1 : b ≠ a := ne_of_none e na
  have n2 : b ≠ dx := ne_of_none e nd'
  rw [upd_ne n2, del_ne n1, upd_ne n1, upd_ne n2, upd_ne n1]
  exact e
section
variable {Z : Cz} {Er : ErW} {O : List Nat} {vs : Option (List Nat)} {te ta tb tc : TE} {tt tu : TT} {m m1 m2 m3 : Env → M Dat} {mb mc : Env → M Bool} {tl : TA} {ml : Env → M (List Dat)} {ts tr : TS} {ms mr : Env → M Flow}
def sRaise (c : String) (f : Str) (l : Env → M (List Dat)) (ρ : Env) : M Flow := l ρ >>= fun ds => M.opt (one ds) >>= fun d => fun S => .er c [.obj c [f] [d]] S
theorem js_raise {c : String} {C : Addr} {f : Str} {E : XK} (hC : Z.κ c = C) (hl : JA Z (ErOf Z E) O tl ml) : JS Z (ErOf Z E) O (fun _ σ H => tMkO C (spIni C f) [] tl σ H fun cls d H' => E cls d H') (sRaise c f ml) := fun σ H p ρ S D hE hS q =>
  hl σ H p ρ S _ hE hS (q.bndE.mono fun ds S1 H1 p1 e1 s1 q1 vs hv => by
    subst hC
    obtain ⟨x, ex, q1⟩ := Post.opt q1
    rw [one_is ex] at hv
    obtain ⟨v, rfl, hv1⟩ := isDs_one hv
    have k : ∀ H' p', Ext H1 p1 H' p' → IsS Z H' p' S1 → ErOf Z E c [.obj c [f] [x]] S1 H' p'.α p'.γ := q1
    refine rd_ini fun d H' nd sm ed => k H1 p1 Ext.refl s1 [f] [x] rfl d H' [v] nd sm ed rfl (.one ?_)
    have l2 : ∀ b, (⟨p1.α, [], p1.γ⟩ : Pl).has b → p1.has b := fun b h => h.imp id fun h => .inr (h.resolve_left List.not_mem_nil)
    exact IsD.less (p := p1) (p' := ⟨p1.α, [], p1.γ⟩) rfl l2 _ (hv1.ext (ExtE.same sm).s))
/-! ### d = {..}; d.update({..}) -/
def dicOf : Dat → Option (List Key × List Dat)
  | .dic ks ds => some (ks, ds)
  | _ => none
theorem dicOf_is {d : Dat} {k : List Key × List Dat} (h : dicOf d = some k) : d = .dic k.1 k.2 := by
  cases d <;> first | (cases h; rfl) | cases h
def sDUpd (i : Nat) (a b : Env → M Dat) (ρ : Env) : M Flow := M.need (decide (i < ρ.length)) >>= fun _ => a ρ >>= fun x => M.opt (dicOf x) >>= fun k => b (ρ.set i none) >>= fun y => M.opt (dicOf y) >>= fun l => M.need (noDup (k.1 ++ l.1) && decide ((k.1 ++ l.1).length ≤ 1000)) >>= fun _ => pure (.nx (ρ.set i (some (.dic (k.1 ++ l.1) (k.2 ++ l.2)))))
theorem js_dupd {i : Nat} (oi : i ∉ O) (h1 : JF Z Er O ta m1) (h2 : JF Z Er O tb m2) (hr : JS Z Er O tr mr) : JS Z Er O (tSeq (tAsg ta (gName i)) (tSeq (tDrop (tDUpd (tVar i) tb)) tr)) (sSeq (sDUpd i m1 m2) mr) := fun σ H p ρ S D hE hS q => by
  have q0 := q.bnd xS
  obtain ⟨lt, q0⟩ := Post.need q0
  have lt := of_decide_eq_true lt
  have ltσ : i < σ.length := by rw [hE.len]; exact lt
  refine h1 σ H p ρ S _ hE hS ((q0.bndK.of xS).mono fun x S1 H1 p1 e1 s1 q1 a na na1 nh hs ht => ?_)
  show tDUpd (tVar i) tb (σ.set i (some (.ref a))) H1 (fun _ H2 => tr D (σ.set i (some (.ref a))) H2)
  have eP : Ext H p H1 ⟨p1.α, p1.ω ++ [a], p1.γ⟩ := by
    have z := ExtC.plus (p := p) (α' := p1.α) ⟨e1.α, rfl, rfl, e1.k, e1.t⟩ na
    rw [← e1.ω, ← e1.γ] at z
    exact z.s
  have mA : a ∈ p1.ω ++ [a] := List.mem_append_right _ (List.mem_singleton.mpr rfl)
  have others : ∀ (j : Nat) (z : Option Dat) (d : Dat), (ρ.set i z)[j]? = some (some d) → j ≠ i → ρ[j]? = some (some d) ∧ (σ.set i (some (.ref a)))[j]? = σ[j]? := fun j z d h n => by
    rw [List.getElem?_set_ne fun c => n c.symm] at h
    exact ⟨h, List.getElem?_set_ne fun c => n c.symm⟩
  have hE' : IsE Z O H1 ⟨p1.α, p1.ω ++ [a], p1.γ⟩ (σ.set i (some (.ref a))) (ρ.set i none) := by
    have notI : ∀ (j : Nat) (d : Dat), (ρ.set i none)[j]? = some (some d) → j ≠ i := fun j d h c => by
      subst c
      rw [List.getElem?_set_self lt] at h
      cases h
    refine ⟨by rw [List.length_set, List.length_set]; exact hE.len, fun j d nj h => ?_, fun j d oj h => ?_, fun j k b oj ok ne ⟨d1, hj⟩ ⟨d2, hk⟩ h => ?_⟩
    · obtain ⟨g, e⟩ := others j none d h (notI j d h)
      rw [e]
      obtain ⟨v, g1, g2⟩ := hE.get j d nj g
      exact ⟨v, g1, g2.ext eP⟩
    · obtain ⟨g, e⟩ := others j none d h (notI j d h)
      rw [e]
      obtain ⟨b, g1, g2, g3⟩ := hE.own j d oj g
      exact ⟨b, g1, List.mem_append_left _ (by rw [e1.ω]; exact g2), g3.ext eP fun u z => e1.k _ _ z (hS.dj b g2).1⟩
    · obtain ⟨g, e⟩ := others j none d1 hj (notI j d1 hj)
      obtain ⟨g', e'⟩ := others k none d2 hk (notI k d2 hk)
      rw [e] at h
      rw [e']
      exact hE.dj j k b oj ok ne ⟨d1, g⟩ ⟨d2, g'⟩ h
  · obtain ⟨⟨ks, ds⟩, ek, q1⟩ := Post.opt q1
    rw [dicOf_is ek] at ht
    obtain ⟨vs, a1, a2, a3⟩ := ht
    refine ⟨.ref a, List.getElem?_set_self ltσ, a, rfl, .inl ⟨_, .inl a1⟩, h2 _ H1 _ _ S1 _ hE' hs (((q1.bndK.up xS eP).of xS).mono fun y S2 H2 p2 e2 s2 q2 b nb nb1 nhb hsb htb => ?_)⟩
    · obtain ⟨⟨ms, es⟩, el, q2⟩ := Post.opt q2
      rw [dicOf_is el] at htb
      obtain ⟨ws, b1, b2, b3⟩ := htb
      obtain ⟨c, q3⟩ := Post.need q2
      clear q q0 q1 q2
      rw [Bool.and_eq_true, decide_eq_true_eq] at c
      have ab : a ≠ b := fun z => na1 (by rw [z]; exact nb)
      have aα : a ∉ p1.α := (hs.dj a mA).1
      have H2a : H2 a = some (.dK (ks.zip vs)) := e2.k a _ a1 aα
      have m2 : a ∈ p2.ω := by rw [e2.ω]; exact mA
      have sz := sizeLine_eq
      have few : (ks ++ ms).length ≤ 1000 := c.2
      have a2 : ks.length = vs.length := a2
      have b2 : ms.length = ws.length := b2
      rw [List.length_append] at few
      refine ⟨b, ks.zip vs, ms.zip ws, rfl, ab, H2a, b1, by rw [List.length_zip, List.length_zip]; omega, ?_⟩
      rw [merge_new c.1 a2 b2]
      have ePut : Ext H2 p2 (L2.upd H2 a (.dK ((ks ++ ms).zip (vs ++ ws)))) p2 := ext_put m2
      have ePut2 : Ext H2 ⟨p2.α, p2.ω ++ [b], p2.γ⟩ (L2.upd H2 a (.dK ((ks ++ ms).zip (vs ++ ws)))) ⟨p2.α, p2.ω ++ [b], p2.γ⟩ := ext_put (List.mem_append_left _ m2)
      have e12 := eP.trans e2.s
      have g2 : p2.γ = p.γ := e12.γ
      have w2 : p2.ω = p.ω ++ [a] := by rw [e2.ω]; show p1.ω ++ [a] = _; rw [e1.ω]
      have sub2 : ∀ x, (⟨p2.α, p.ω, p.γ⟩ : Pl).has x → p2.has x := fun x h => by
        rcases h with h | h | h
        · exact .inl h
        · exact .inr (.inl (by rw [w2]; exact List.mem_append_left _ h))
        · exact .inr (.inr (by rw [g2]; exact h))
      have eX : Ext H p (L2.upd H2 a (.dK ((ks ++ ms).zip (vs ++ ws)))) ⟨p2.α, p.ω, p.γ⟩ := ⟨e12.α, ⟨[], by simp⟩, rfl, fun x o h n1 n2 => by rw [upd_ne (ne_of_none h na)]; exact e12.k x o h n1 n2, fun x n => by
        by_cases c : x = a
        · rw [c, upd_same]; exact nofun
        · rw [upd_ne c]; exact e12.t x n⟩
      have sX : IsS Z (L2.upd H2 a (.dK ((ks ++ ms).zip (vs ++ ws)))) ⟨p2.α, p.ω, p.γ⟩ S2 := by
        have z := (hsb.put (o := .dK ((ks ++ ms).zip (vs ++ ws))) (List.mem_append_left _ m2)).less (ω := p.ω) fun x h => List.mem_append_left _ (by rw [w2]; exact List.mem_append_left _ h)
        rw [← g2]
        exact z
      have nh3 : ¬ (⟨p2.α, p.ω, p.γ⟩ : Pl).has a := by
        rintro (h | h | h)
        · exact (hsb.dj a (List.mem_append_left _ m2)).1 h
        · exact hS.wt a (.inl h) na
        · exact hS.wt a (.inr h) na
      have it1 : IsDs Z (L2.upd H2 a (.dK ((ks ++ ms).zip (vs ++ ws)))) ⟨p2.α, p.ω, p.γ⟩ vs ds := IsDs.less (p := p2) (p' := ⟨p2.α, p.ω, p.γ⟩) rfl sub2 _ ((a3.ext e2.s).ext ePut)
      have it2 : IsDs Z (L2.upd H2 a (.dK ((ks ++ ms).zip (vs ++ ws)))) ⟨p2.α, p.ω, p.γ⟩ ws es := IsDs.less (p := ⟨p2.α, p2.ω ++ [b], p2.γ⟩) (p' := ⟨p2.α, p.ω, p.γ⟩) rfl (fun x h => (sub2 x h).imp id fun h => h.imp (List.mem_append_left _) id) _ (b3.ext ePut2)
      have hE3 : IsE Z O (L2.upd H2 a (.dK ((ks ++ ms).zip (vs ++ ws)))) ⟨p2.α, p.ω, p.γ⟩ (σ.set i (some (.ref a))) (ρ.set i (some (.dic (ks ++ ms) (ds ++ es)))) := by
        refine ⟨by rw [List.length_set, List.length_set]; exact hE.len, fun j d nj h => ?_, fun j d oj h => ?_, fun j k b oj ok ne ⟨d1, hj⟩ ⟨d2, hk⟩ h => ?_⟩
        · by_cases c : j = i
          · subst c
            rw [List.getElem?_set_self lt] at h
            cases h
            exact ⟨.ref a, List.getElem?_set_self ltσ, isD_dic.mpr ⟨a, _, rfl, ⟨upd_same, nh3⟩, by rw [List.length_append, List.length_append, a2, b2], it1.append it2⟩⟩
          · obtain ⟨g, e⟩ := others j _ d h c
            rw [e]
            obtain ⟨v, g1, g2⟩ := hE.get j d nj g
            exact ⟨v, g1, g2.ext eX⟩
        · have c : j ≠ i := fun z => oi (z ▸ oj)
          obtain ⟨g, e⟩ := others j _ d h c
          rw [e]
          obtain ⟨b', k1, k2, k3⟩ := hE.own j d oj g
          refine ⟨b', k1, k2, k3.ext eX fun u z => ?_⟩
          rw [upd_ne (ne_of_none z na)]
          have z1 := e1.k _ _ z (hS.dj b' k2).1
          exact e2.k _ _ z1 (not_fresh e1.α z (hS.dj b' k2).1)
        · have c1 : j ≠ i := fun z => oi (z ▸ oj)
          have c2 : k ≠ i := fun z => oi (z ▸ ok)
          obtain ⟨g, e⟩ := others j _ d1 hj c1
          obtain ⟨g', e'⟩ := others k _ d2 hk c2
          rw [e] at h
          rw [e']
          exact hE.dj j k b oj ok ne ⟨d1, g⟩ ⟨d2, g'⟩ h
      exact hr _ _ _ _ S2 D hE3 sX (q3 _ _ eX sX)
end
end Zd

namespace Zd
open PySem PySem.Spec PyProof.Rows L2 Zg

/-! ### what laws have in common -/
theorem nin {i : Nat} : i ∉ ([] : List Nat) := List.not_mem_nil
theorem lt_units {n : Nat} (h : n + 64 < cLine) : n + 1 < cLine := by omega
theorem hu70 {k : Nat} {A : Around} (r : Room k A) : A.units + 70 < cLine := by
  have := r.un
  omega
def Cal (P : Program) (w : World) (K : PySem.W.Frag) (mg : Str → Option Value) (base : Heap) (k : Nat) (x : Str) (ps : List Str) (sp : Sp) : Prop :=
  ∃ (f : Addr) (fd : FuncData), FnOk P w K mg base CX0 k f fd ps sp ∧ Binds K fd ps [] ∧ mg x = some (.ref f) ∧ PySem.W.keepIn K (.ref f) = true
def CalX (P : Program) (w : World) (K : PySem.W.Frag) (mg : Str → Option Value) (base : Heap) (k : Nat) (x : Str) (ps : List Str) (sp : Sp) : Prop :=
  ∃ (f : Addr) (fd : FuncData), FnOk P w K mg base (L2.CX P w) k f fd ps sp ∧ Binds K fd ps [] ∧ mg x = some (.ref f) ∧ PySem.W.keepIn K (.ref f) = true
def CalG (P : Program) (w : World) (K : PySem.W.Frag) (mg : Str → Option Value) (base : Heap) (k : Nat) (x : Str) (ps : List Str) (sp : Sp) : Prop :=
  ∃ (f : Addr) (fd : FuncData), FnG P w K mg base CX0 k f fd ps sp ∧ Binds K fd ps [] ∧ mg x = some (.ref f) ∧ PySem.W.keepIn K (.ref f) = true
/-- builtins whose names the module leaves alone -/
structure TxD (mg : Str → Option Value) : Prop where
  n_int : mg "int" = none
  n_len : mg "len" = none
  n_abs : mg "abs" = none
  n_bool : mg "bool" = none
  n_tuple : mg "tuple" = none
  n_isinstance : mg "isinstance" = none
  n_range : mg "range" = none
  n_max : mg "max" = none
  n_min : mg "min" = none
  n_all : mg "all" = none
  n_repr : mg "repr" = none
  n_str : mg "str" = none
  n_any : mg "any" = none
  n_list : mg "list" = none
  n_zip : mg "zip" = none
  n_enumerate : mg "enumerate" = none
def strsT (xs : List Str) : Dat := .tup (xs.map .str)
theorem strs_of {Z : Cz} {H : Hp} {p : Pl} : ∀ {xs : List Str}, IsDs Z H p (xs.map V.str) (xs.map Dat.str)
  | [] => isDs_nil.mpr rfl
  | x :: xs => isDs_cons.mpr ⟨_, _, rfl, isD_str.mpr rfl, strs_of⟩
/-- a module's tuple of texts -/
structure GTup (K : PySem.W.Frag) (mg : Str → Option Value) (nm : Str) (a : Addr) (xs : List Str) : Prop where
  g : mg nm = some (.ref a)
  sq : ∀ H, SqT K H a (xs.map V.str)
theorem GTup.isD {K : PySem.W.Frag} {mg : Str → Option Value} {nm : Str} {a : Addr} {xs : List Str} (h : GTup K mg nm a xs) {κ : String → Addr} (H : Hp) (p : Pl) : IsD ⟨K, κ⟩ H p (.ref a) (strsT xs) := isD_tup.mpr ⟨a, _, rfl, .inr h.sq, strs_of⟩
def strsOf : List Value → Option (List Str)
  | [] => some []
  | .str x _ :: r => (strsOf r).map (x :: ·)
  | _ :: _ => none
theorem vals_strsOf : ∀ {us : List Value} {xs : List Str}, strsOf us = some xs → Vals (xs.map V.str) us
  | [], xs, h => by cases h; exact .nil
  | u :: r, xs, h => by
    cases u with
    | str x t =>
      unfold strsOf at h
      cases q : strsOf r with
      | none => rw [q] at h; cases h
      | some ys => rw [q] at h; cases h; exact .cons ⟨t, rfl⟩ (vals_strsOf q)
    | _ => cases h
/-- the texts of a written tuple -/
def tupW (K : PySem.W.Frag) (a : Addr) : Option (List Str) := match K.lookup a with
  | some ⟨.type c, _, .seq its _, _⟩ => if decide (c = "tuple") = true then strsOf its.toList else none
  | _ => none
theorem tupW_sq {K : PySem.W.Frag} {a : Addr} {xs : List Str} (h : tupW K a = some xs) (l : xs.length ≤ 100) (H : Hp) : SqT K H a (xs.map V.str) := by
  unfold tupW at h
  split at h
  · rename_i c d its n sl hl
    by_cases hc : c = "tuple"
    · rw [if_pos (decide_eq_true hc)] at h
      subst hc
      refine .inr ⟨_, its, n, hl, rfl, rfl, ?_, vals_strsOf h⟩
      have z := (vals_strsOf h).length
      rw [List.length_map] at z
      have : its.size = its.toList.length := by simp
      have sz := sizeLine_eq
      omega
    · rw [if_neg (by rw [decide_eq_true_eq]; exact hc)] at h
      cases h
  · cases h
/-- a module's dict of tuples of texts -/
def lkT (z : Str) : List (Str × List Str) → Option (List Str)
  | [] => none
  | (k, xs) :: r => if k == z then some xs else lkT z r
def tabOk (K : PySem.W.Frag) (a : Addr) : List (Str × List Str) → Bool
  | [] => true
  | (k, xs) :: r => (match PySem.W.nsIn K a k with
    | some (some (.ref b)) => (match tupW K b with
      | some ys => decide (ys = xs) && decide (xs.length ≤ 100)
      | none => false)
    | _ => false) && tabOk K a r
structure GTab (K : PySem.W.Frag) (w : World) (mg : Str → Option Value) (nm : Str) (a : Addr) (tab : List (Str × List Str)) : Prop where
  g : mg nm = some (.ref a)
  kt : KTab K w a
  tab : ∀ z : Str, ∃ r, PySem.W.nsIn K a z = some r ∧ (match lkT z tab with | some xs => ∃ b : Addr, r = some (.ref b) ∧ ∀ H, SqT K H b (xs.map V.str) | none => r = none)
theorem tab_hit {K : PySem.W.Frag} {a : Addr} {z : Str} : ∀ {tab : List (Str × List Str)}, tabOk K a tab = true → ∀ xs, lkT z tab = some xs → ∃ b : Addr, PySem.W.nsIn K a z = some (some (.ref b)) ∧ ∀ H, SqT K H b (xs.map V.str)
  | [], _, _, h => by cases h
  | (k, ys) :: r, ok, xs, h => by
    unfold tabOk at ok
    rw [Bool.and_eq_true] at ok
    unfold lkT at h
    by_cases e : (k == z) = true
    · rw [if_pos e] at h
      cases h
      have e := beq_iff_eq.mp e
      subst e
      have o := ok.1
      split at o
      · rename_i b hb
        split at o
        · rename_i zs hz
          simp only [Bool.and_eq_true, decide_eq_true_eq] at o
          rw [o.1] at hz
          exact ⟨b, hb, tupW_sq hz o.2⟩
        · cases o
      · cases o
    · rw [if_neg e] at h
      exact tab_hit ok.2 xs h
theorem lk_none {z : Str} : ∀ {tab : List (Str × List Str)}, lkT z tab = none → ∀ k ∈ tab.map (·.1), (k == z) = false
  | [], _, _, m => by cases m
  | (k, ys) :: r, h, x, m => by
    unfold lkT at h
    by_cases e : (k == z) = true
    · rw [if_pos e] at h; cases h
    · rw [if_neg e] at h
      rcases List.mem_cons.mp m with m | m
      · rw [m]; exact Bool.eq_false_iff.mpr e
      · exact lk_none h x m
theorem keys_at {P : Params} : ∀ {l : List DictEntry} {ks : List Str}, l.map He.keyOf = He.keysIn P ks → ∀ e ∈ l, ∃ k t, e.key = .str k t ∧ k ∈ ks
  | [], _, _, _, m => by cases m
  | e :: r, [], h, _, _ => by cases h
  | e :: r, k :: ks, h, x, m => by
    obtain ⟨h2, h3⟩ : He.keyOf e = some (k, PyData.keyHash P k) ∧ r.map He.keyOf = He.keysIn P ks := List.cons.inj h
    rcases List.mem_cons.mp m with rfl | m
    · unfold He.keyOf at h2
      split at h2
      · rename_i y t q
        have e : y = k := congrArg Prod.fst (Option.some.inj h2)
        subst e
        exact ⟨_, t, q, List.mem_cons_self⟩
      · cases h2
    · obtain ⟨k', t, q1, q2⟩ := keys_at h3 x m
      exact ⟨k', t, q1, List.mem_cons_of_mem _ q2⟩
theorem gtab_of {K : PySem.W.Frag} {w : World} {mg : Str → Option Value} {nm : Str} {a : Addr} {tab : List (Str × List Str)} (g : mg nm = some (.ref a)) (h1 : He.dicW K a = some (He.keysIn w.params (tab.map (·.1)))) (h2 : tabOk K a tab = true) : GTab K w mg nm a tab := by
  refine ⟨g, ⟨He.dicW_ok h1⟩, fun z => ?_⟩
  cases q : lkT z tab with
  | some xs =>
    obtain ⟨b, e1, e2⟩ := tab_hit h2 xs q
    exact ⟨_, e1, b, rfl, e2⟩
  | none =>
    refine ⟨none, ?_, rfl⟩
    unfold He.dicW at h1
    unfold PySem.W.nsIn
    split at h1
    · rename_i c es n sl hl
      rw [hl]
      split at h1
      · have h1 := Option.some.inj h1
        have ks := keys_at h1
        have no := lk_none q
        have f : es.toList.find? (·.key.isStr z) = none := by
          refine List.find?_eq_none.mpr fun e m c => ?_
          obtain ⟨k, t, q1, q2⟩ := ks e m
          rw [q1] at c
          have := no k q2
          change (k == z) = true at c
          rw [this] at c
          cases c
        have rf : es.toList.any (·.refKey) = false := by
          refine Bool.eq_false_iff.mpr fun c => ?_
          obtain ⟨e, m, c⟩ := List.any_eq_true.mp c
          obtain ⟨k, t, q1, _⟩ := ks e m
          unfold DictEntry.refKey at c
          rw [q1] at c
          cases c
        simp only [f, rf]
        rfl
      · cases h1
    · cases h1
section
variable {Z : Cz} {Er : ErW} {O : List Nat} {vs : Option (List Nat)} {te ta tb tc : TE} {tt tu : TT} {m m1 m2 m3 : Env → M Dat} {mb mc : Env → M Bool} {tl : TA} {ml : Env → M (List Dat)} {ts tr : TS} {ms mr : Env → M Flow}
def xKGet (tab : List (Str × List Str)) (a : Env → M Dat) (ρ : Env) : M Dat := a ρ >>= fun d => M.opt (sT d) >>= fun z => pure (match lkT z tab with | some xs => strsT xs | none => .non)
theorem j_kget {w : World} {a : Addr} {tab : List (Str × List Str)} (h : ∀ z : Str, ∃ r, PySem.W.nsIn Z.K a z = some r ∧ (match lkT z tab with | some xs => ∃ b : Addr, r = some (.ref b) ∧ ∀ H, SqT Z.K H b (xs.map V.str) | none => r = none)) (hb : JD Z Er O te m) : JD Z Er O (tKGet Z.K w a (tC (.ref a)) te) (xKGet tab m) := fun σ H p ρ S Q hE hS q =>
  ⟨rfl, hb σ H p ρ S _ hE hS ((q.bnd xE).mono fun d S1 H1 p1 e1 s1 q1 v hv => by
    obtain ⟨z, ez, q1⟩ := Post.opt q1
    rw [sT_is ez] at hv
    obtain ⟨r, hr, hm⟩ := h z
    have k := q1.pure xE s1
    refine ⟨z, r, isD_str.mp hv, hr, fun u eu => ?_, fun en => ?_⟩
    · cases e : lkT z tab with
      | none => rw [e] at hm; rw [eu] at hm; cases hm
      | some xs =>
        rw [e] at hm k
        obtain ⟨b, eb, sq⟩ := hm
        rw [eu] at eb
        cases eb
        exact ⟨.ref b, rfl, k _ (isD_tup.mpr ⟨b, _, rfl, .inr sq, strs_of⟩)⟩
    · cases e : lkT z tab with
      | none => rw [e] at k; exact k .non (isD_non.mpr rfl)
      | some xs => rw [e] at hm; obtain ⟨b, eb, _⟩ := hm; rw [en] at eb; cases eb)⟩
def iRg1 (l : Env → M (List Dat)) (ρ : Env) : M (List Dat) := l ρ >>= fun ds => match ds with
  | [.int j] => M.need (decide (-(2 ^ 62) ≤ j ∧ j < 2 ^ 62)) >>= fun _ => pure (intsD 0 j.toNat)
  | _ => M.no
theorem ji_rg1 {X : XR} (hl : JA Z Er O tl ml) : JI Z Er O X (iRng1 tl) (iRg1 ml) := ji_rng1 hl
def hasT (x y : Str) : Bool := !(Builtin.Str.occurrences y x 0 y.length 1).isEmpty
def dInT (neg : Bool) (d e : Dat) : M Dat := match d, e with
  | .str x, .str y => pure (.bl (neg != hasT x y))
  | _, _ => M.no
theorem r_inT : JRD Z (fun x y H Q => ∃ i j, x = .str i ∧ y = .str j ∧ Q (.bl (!(Builtin.Str.occurrences j i 0 j.length 1).isEmpty)) H) (dInT false) := fun x y d e Er H p S Q hx hy s q => by
  unfold dInT at q
  split at q
  · exact ⟨_, _, isD_str.mp hx, isD_str.mp hy, q.pure xE s _ (isD_bl.mpr (by rw [Bool.false_bne]; rfl))⟩
  · exact (bad_no (S := S) q).elim
end
theorem m0_isascii {x : Str} {H : Hp} {Q : VK} (h : Q (.bl (Txt.isascii x)) H) : ∃ a, V.str x = .str a ∧ ([] : List V) = [] ∧ True ∧ Q (.bl (Txt.isascii a)) H := ⟨x, rfl, rfl, trivial, h⟩
theorem m0_isalpha {x : Str} {H : Hp} {Q : VK} (h : Q (.bl (Txt.isalpha x)) H) : ∃ a, V.str x = .str a ∧ ([] : List V) = [] ∧ True ∧ Q (.bl (Txt.isalpha a)) H := ⟨x, rfl, rfl, trivial, h⟩
theorem m0_islower {x : Str} {H : Hp} {Q : VK} (h : Q (.bl (Txt.islower x)) H) : ∃ a, V.str x = .str a ∧ ([] : List V) = [] ∧ True ∧ Q (.bl (Txt.islower a)) H := ⟨x, rfl, rfl, trivial, h⟩
/-! ### errors with one field -/
structure ExT (K : PySem.W.Frag) (mg : Str → Option Value) (CW C : Addr) (nm f : Str) : Prop where
  ox : OexC K C
  nf : PySem.W.findIn K (.ref C) f = some none
  me : PySem.W.exmOne K (.ref C) (.ref CW) = some true
  kc : PySem.W.kitOne K (.ref C) (.ref C) = some true
  kv : PySem.W.kitOne K (.ref C) (.type "ValueError") = some true
  g : mg nm = some (.ref C)
end Zd

namespace Zg
open PySem PySem.Spec PyProof.Rows L2
/-! ### a caught error that is kept behind its suite -/
section
variable {X : Cx} {pins : List (Addr × Obj)} {σ : L2.St} {H : Hp} {s : Shared}
/-- what is kept behind: the context with the error pinned -/
abbrev kept (X : Cx) (a : Addr) (oe : Obj) (pn : List (Addr × Obj)) : Cx := X.tr ((a, oe) :: pn) X.xe
theorem un_kept {a : Addr} {oe : Obj} {pn' : List (Addr × Obj)} (ok : X.Ok) (J : Inv (kept X a oe (X.pn ++ pins)) pn' σ H s) : Inv X pins σ H s where
  ok := ok
  os := J.os
  bare := J.bare
  base := J.base
  loc := J.loc
  cell := J.cell
  free := J.free
  freeC := J.freeC
  pin := fun q hq => J.pin q (List.mem_append.mpr (.inl (List.mem_cons.mpr (.inr hq))))
  hok := J.hok
  len := J.len
theorem kept_of {a : Addr} {oe : Obj} {pn pn' : List (Addr × Obj)} (ok : X.Ok) (J : Inv (X.suite a ((a, oe) :: pn)) pn' σ H s) : Inv (kept X a oe pn) pn' σ H s where
  ok := ok.toTry _ _
  os := J.os
  bare := J.bare
  base := J.base
  loc := J.loc
  cell := J.cell
  free := J.free
  freeC := J.freeC
  pin := J.pin
  hok := J.hok
  len := J.len
theorem sp_kept {a : Addr} {oe : Obj} {D : Ends} {fl : Flow} (ok : X.Ok) (h : SP (kept X a oe (X.pn ++ pins)) [] D fl s) : SP X pins D fl s := by
  match fl, h with
  | .next, ⟨σ', H', J, q⟩ => exact ⟨σ', H', un_kept ok J, q⟩
  | .brk, ⟨σ', H', J, q⟩ => exact ⟨σ', H', un_kept ok J, q⟩
  | .cont, ⟨σ', H', J, q⟩ => exact ⟨σ', H', un_kept ok J, q⟩
  | .ret _, ⟨v, σ', H', J, r, q⟩ => exact ⟨v, σ', H', un_kept ok J, r, q⟩
end
/-- what a try that keeps its error wishes of one that its body raises -/
def wKeep (K : PySem.W.Frag) (c : Value) (i : Nat) (ts tk : Addr → Value → Option Addr → TS) (D : Ends) : WX := fun cls d σ H =>
  PySem.W.exmOne K cls c = some true ∧ ∀ a, H a = none → ts a cls d { nx := fun σ' H' => tk a cls d D (σ'.set i none) H', rt := fun _ _ => False } (σ.set i (some (.ref a))) H
section
variable {X : Cx} {x n : Str} {c : Value} {i : Nat} {body suite rest : List Stmt} {b₀ : Stmt} {np pos pos' : Pos} {tb : WX → TS} {ts tk : Addr → Value → Option Addr → TS} {t0 : TS}
/-- try: body / except x as n: suite, and what stands behind, read in the light of the error that was caught -/
theorem pss_keep (hs : X.stack = X.env :: X.outer) (hf : X.env.frame = some X.env.locals) (hN : X.N.Nodup) (hi : X.N[i]? = some n) (hln : X.env.kindOf n = some .local) (hc : Names X x c)
    (hb : ∀ (W : WX) (pn : List (Addr × Obj)) (xe : Value → Shared → Prop), Takes (X.tr pn xe) W → PSs (X.tr pn xe) body (tb W))
    (hsu : ∀ (a : Addr) (oe : Obj) (cls : Value) (d : Option Addr) (pn : List (Addr × Obj)), Zc cls d oe → (∃ vs, oe.data = .fields vs) → PSs (X.suite a ((a, oe) :: pn)) (b₀ :: suite) (ts a cls d))
    (h0 : PSs X rest t0)
    (hk : ∀ (a : Addr) (oe : Obj) (cls : Value) (d : Option Addr) (pn : List (Addr × Obj)), Zc cls d oe → (∃ vs, oe.data = .fields vs) → PSs (kept X a oe pn) rest (tk a cls d)) :
    PSs X (.Try body [.ExceptHandler (some (.Name x np)) (some n) (b₀ :: suite) pos'] [] [] pos :: rest) (fun D σ H => tb (wKeep X.K c i ts tk D) { D with nx := t0 D } σ H) := by
  constructor
  intro pins s σ H D I h
  have ok := I.ok
  -- either as behind any statement, or with the error kept
  refine wpAny_execs_cons (thn (Q := fun fl s1 => SP X pins { D with nx := t0 D } fl s1 ∨ (fl = .next ∧ ∃ (a : Addr) (oe : Obj) (cls : Value) (d : Option Addr) (σ' : L2.St) (H' : Hp), Zc cls d oe ∧ (∃ vs, oe.data = .fields vs) ∧
    Inv (kept X a oe (X.pn ++ pins)) [] σ' H' s1 ∧ tk a cls d D σ' H')) ?_ fun fl s1 z => ?_)
  · have hfr : X.A.frames = some (X.env :: X.outer) := ok.frames.trans (congrArg some hs)
    refine wpAny_Try_except ?_
    refine wpAny_mono ((hb (wKeep X.K c i ts tk D) (X.pn ++ pins) _ (fun u s' xx => ?_)).run [] s σ H _ (I.toTry _) h) (fun fl s1 z => ?_) (fun e s1 he => he)
    · -- what the body raises is caught here
      obtain ⟨a, B, sI, pins', σ', H', cls, d, eu, J', nb, up, sky, na, os, ag, hyes, hgo⟩ := xx
      subst eu
      have J : Inv X pins σ' H' sI := J'.ofTry ok
      have air : Sky B (X.env :: X.outer) a (Zc cls d) X.env.locals s'.heap := hs ▸ sky
      refine Sky.land Zc.steady hfr hf air fun h1 fly1 up1 => ?_
      have J1 : Inv X pins σ' H' { s' with heap := h1 } := J.landed nb fly1.1 (up.trans up1) os ag
      obtain ⟨o1, v1, at1, z1, f1⟩ := fly1.there
      have off : a ∉ frs (X.env :: X.outer) := fun hm => by
        obtain ⟨_, o', e', no⟩ := fly1.2.2.1.mem hm
        rw [at1] at e'
        cases e'
        exact no _ f1
      have offL : a ≠ X.env.locals := fun z => off (List.mem_filterMap.mpr ⟨X.env, List.mem_cons_self, hf.trans (congrArg some z.symm)⟩)
      have offF : a ∉ X.fs := fun hm => by
        obtain ⟨e, m, q⟩ := List.mem_filterMap.mp hm
        exact off (List.mem_filterMap.mpr ⟨e, List.mem_cons_of_mem _ m, q⟩)
      have S1 := J1.suite at1 f1 na offL offF
      have cl : PySem.W.Looks (model X.prog X.w) h1 (typeOf (.ref a)) cls := fun A Q E s k q => wpAny_typeOf_ref (k _ _ at1) (z1.1.symm ▸ q)
      have fits := PySem.W.exm_one (M := model X.prog X.w) J1.kIn cl hyes
      have named : ∀ {Q : Value → Shared → Prop} {E : Value → Shared → Prop}, Q c { s' with heap := h1 } → wpAny (model X.prog X.w) (X.A.mark (some (.ref a))) (eval (.Name x np) X.env) Q E { s' with heap := h1 } := fun {Q E} q => by
        obtain ⟨g, nodb, m⟩ := hc
        rcases m with m | ⟨m, bt, nn⟩
        · exact ld_glob (X := X.suite a ((a, o1) :: (X.pn ++ pins))) S1 g m q nodb
        · exact ld_blt (X := X.suite a ((a, o1) :: (X.pn ++ pins))) S1 g m bt q nn nodb
      refine wpAny_handleBy_cons (codeAny_handlers_test (named (fits.here ?_))) (fun q => nomatch q)
      refine codeAny_handlers_suite_as (HandSPX.lands_againZ fly1 fun h2 fly2 up2 => ?_)
      obtain ⟨o2, v2, at2, z2, f2⟩ := fly2.there
      have S2 := (J.landed (s' := { s' with heap := h2 }) nb fly2.1 ((up.trans up1).trans up2) os ag).suite at2 f2 na offL offF
      refine store_ok (X := X.suite a ((a, o2) :: (X.pn ++ pins))) (v := .ref a) S2 hN hi (.inl hln) rfl (fun s3 S3 => ?_) (.inr hln)
      refine wpAny_mono ((hsu a o2 cls d (X.pn ++ pins) z2 ⟨_, f2⟩).run [] s3 _ H' _ S3 (hgo a na)) (fun fl s4 z => ?_) (fun _ _ z => False.elim z)
      match fl, z with
      | .next, ⟨σ4, H4, S4, q4⟩ => exact gone_ok (X := kept X a o2 (X.pn ++ pins)) (kept_of ok S4) hN hi hln fun s5 J5 => .inr ⟨rfl, a, o2, cls, d, _, _, z2, ⟨_, f2⟩, J5, q4⟩
      | .brk, ⟨_, _, _, q4⟩ => exact False.elim q4
      | .cont, ⟨_, _, _, q4⟩ => exact False.elim q4
      | .ret _, ⟨_, _, _, _, _, q4⟩ => exact False.elim q4
    · match fl, z with
      | .next, ⟨σ', H', J', q⟩ => exact wpAny_execs_nil (.inl ⟨σ', H', J'.ofTry ok, q⟩)
      | .brk, ⟨σ', H', J', q⟩ => exact .inl ⟨σ', H', J'.ofTry ok, q⟩
      | .cont, ⟨σ', H', J', q⟩ => exact .inl ⟨σ', H', J'.ofTry ok, q⟩
      | .ret _, ⟨v, σ', H', J', r, q⟩ => exact .inl ⟨v, σ', H', J'.ofTry ok, r, q⟩
  · rcases z with z | ⟨rfl, a, oe, cls, d, σ', H', zc, hd, J, q⟩
    · match fl, z with
      | .next, ⟨σ', H', J, q⟩ => exact h0.run pins s1 σ' H' D J q
      | .brk, z => exact z
      | .cont, z => exact z
      | .ret _, z => exact z
    · exact thn ((hk a oe cls d (X.pn ++ pins) zc hd).run [] s1 σ' H' D J q) fun fl s2 z => sp_kept ok z
end
/-- what an own exception class must have, so that isinstance and fields are read of its objects -/
structure ExcK (K : PySem.W.Frag) (C : Addr) : Prop where
  cl : (PySem.W.clsIn K C).isSome = true
  ga : PySem.W.findIn K (.ref C) "__getattribute__" = some (some (.builtin "BaseException.__getattribute__"))
  gg : PySem.W.findIn K (.ref C) "__getattr__" = some none
  su : PySem.W.subIn K (.ref C) (.type "BaseException") = some true
  ha : PySem.W.findIn K (.ref C) "__class__" = some (some (.builtin "object.__class__"))
  hn : PySem.W.specialIn K (.builtin "object.__class__") "__get__" = some (some (.builtin "getset_descriptor.__get__"))
  ht : PySem.W.takesIn K (.builtin "object.__class__") = some true
  hm : PySem.W.mroIn K C (.type "object") = some true
  hd : PySem.W.hasDictIn K C = true
section
variable {X : Cx} {a : Addr} {oe : Obj} {cls : Value} {d : Option Addr}
theorem held_at {pins : List (Addr × Obj)} {σ : L2.St} {H : Hp} {s : Shared} {C dd : Addr} {fs : List (Str × V)} (hp : (a, oe) ∈ X.pn) (hz : Zc cls d oe) (hf : ∃ vs, oe.data = .fields vs) (I : Inv X pins σ H s) (ec : cls = .ref C) (ed : d = some dd) (ea : H dd = some (.xd fs)) :
    ∃ (od : Obj) (mA : Str → Option Value), PySem.W.InstAt s.heap a oe C (some od) ∧ (∀ y, PySem.W.lookIn y od = some (mA y)) ∧ ∀ y, RelO (fs.lookup y) (mA y) := by
  subst ec
  subst ed
  obtain ⟨ha, _⟩ := I.pin (a, oe) (List.mem_append.mpr (.inl hp))
  obtain ⟨vs, hd⟩ := hf
  have z : ObjOk X.prog X.w H s.heap dd (.xd fs) := I.hok dd _ ea
  obtain ⟨mA, hns, hr⟩ := z
  obtain ⟨od, ho, hl⟩ := lookIn_ns hns
  refine ⟨od, mA, ⟨ha, hz.1, ?_, ?_⟩, hl, hr⟩
  · unfold PySem.W.notCls
    rw [hd]
  · rw [hz.2]
    exact ho
/-- isinstance(e, c), e the error that is kept -/
def rIsP (K : PySem.W.Frag) (a : Addr) (cls : Value) (d : Option Addr) : List V → Hp → VK → Prop := fun xs H Q =>
  ∃ (C dd : Addr) (fs : List (Str × V)) (c : V) (cv : Value) (b : Bool), xs = [.ref a, c] ∧ cls = .ref C ∧ ExcK K C ∧ d = some dd ∧ H dd = some (.xd fs) ∧ (∀ u, RelV c u → u = cv) ∧ PySem.W.kitOne K (.ref C) cv = some b ∧ Q (.bl b) H
theorem call_isP (hp : (a, oe) ∈ X.pn) (hz : Zc cls d oe) (hf : ∃ vs, oe.data = .fields vs) : CallR X (.builtin "isinstance") (rIsP X.K a cls d) := by
  intro pins s σ H xs us Q I r h
  obtain ⟨C, dd, fs, c, cv, b, rfl, ec, T, ed, ea, hcv, e, q⟩ := h
  cases r with
  | cons rx rr =>
    cases rr with
    | cons rt rr =>
      cases rr
      cases rx
      have ev := hcv _ rt
      subst ev
      obtain ⟨od, mA, J, _⟩ := held_at hp hz hf I ec ed ea
      exact PySem.W.kia_one (PySem.W.kitx_exc T.cl T.ga T.gg T.su T.ha T.hn T.ht T.hm) I.kIn J e (fun z => nomatch z) fun tk => ⟨.bl b, H, I.kept (t' := tk) fun _ _ z => z, rfl, q⟩
/-- e.f, e the error that is kept -/
def tXfP (K : PySem.W.Frag) (a : Addr) (cls : Value) (d : Option Addr) (f : Str) (te : TE) : TE := fun σ H Q => te σ H fun x H1 => x = .ref a ∧
  ∃ (C dd : Addr) (fs : List (Str × V)) (v : V), cls = .ref C ∧ ExcK K C ∧ PySem.W.findIn K (.ref C) f = some none ∧ d = some dd ∧ H1 dd = some (.xd fs) ∧ fs.lookup f = some v ∧ Q v H1
theorem pe_xfP {e : Expr} {te : TE} {pos : Pos} {n : Str} (hp : (a, oe) ∈ X.pn) (hz : Zc cls d oe) (hf : ∃ vs, oe.data = .fields vs) (he : PE X e te) (hb : attributeBase e n X.env (eval e X.env) = eval e X.env := by rfl) :
    PE X (.Attribute e n pos) (tXfP X.K a cls d n te) := by
  constructor
  intro pins s σ H Q I h
  refine attr_of hb (thn (he.run pins s σ H _ I h) fun u s1 hh => ?_)
  obtain ⟨x, H1, I1, rx, ex, C, dd, fs, v, ec, T, no, ed, ea, l, q⟩ := hh
  subst ex
  obtain rfl : u = Value.ref a := rx
  obtain ⟨od, mA, J, hl, hr⟩ := held_at hp hz hf I1 ec ed ea
  obtain ⟨u, hu, ru⟩ := RelO.some_of (v := v) (o := mA n) (by rw [← l]; exact hr n)
  exact HandSPX.exc_get I1.kIn J T.ga T.gg T.su (PySem.W.findObj_own T.hd no rfl ((hl n).trans (congrArg some hu))) (handed_of ru) ⟨v, H1, I1.tok _, ru, q⟩
end
theorem kit_sub {K : PySem.W.Frag} {C : Addr} {n : String} (hm : PySem.W.kitMeta n = true) (h : PySem.W.subIn K (.ref C) (.type n) = some true) : PySem.W.kitOne K (.ref C) (.type n) = some true := by
  unfold PySem.W.kitOne PySem.W.kitCls
  rw [if_neg (by simp)]
  first
    | (rw [if_pos hm]; exact h)
    | (simp only [hm, if_true]; exact h)
theorem rd_ost {K : PySem.W.Frag} {a C : Addr} {f : Str} {y : V} {H : Hp} {R : Hp → Prop} (T : OexC K C) (no : PySem.W.findIn K (.ref C) f = some none) (e : H a = some (exo a C none)) (k : ∀ dx, H dx = none → dx ≠ a → R (upd (upd H dx (exd dx [(f, y)])) a (exo a C (some dx)))) :
    ∃ a' C' : Addr, V.ref a = .ref a' ∧ OexC K C' ∧ PySem.W.findIn K (.ref C') f = some none ∧ ((H a' = some (exo a' C' none) ∧ ∀ dx, H dx = none → dx ≠ a' → R (upd (upd H dx (exd dx [(f, y)])) a' (exo a' C' (some dx)))) ∨
      ∃ (dx : Addr) (fs : List (Str × V)), H a' = some (exo a' C' (some dx)) ∧ H dx = some (exd dx fs) ∧ fs.length ≤ 900 ∧ R (upd H dx (exd dx ((f, y) :: fs)))) := ⟨a, C, rfl, T, no, .inl ⟨e, k⟩⟩
theorem pss_none {X : Cx} {l : List Stmt} : PSs X l (fun _ _ _ => False) := ⟨fun _ _ _ _ _ _ h => h.elim⟩
section
variable {X : Cx} {a : Addr} {oe : Obj} {cls : Value} {d : Option Addr} {pn : List (Addr × Obj)}
theorem call_isK (hz : Zc cls d oe) (hf : ∃ vs, oe.data = .fields vs) : CallR (kept X a oe pn) (.builtin "isinstance") (rIsP X.K a cls d) := call_isP (X := kept X a oe pn) List.mem_cons_self hz hf
theorem pe_xfK {e : Expr} {te : TE} {pos : Pos} {n : Str} (hz : Zc cls d oe) (hf : ∃ vs, oe.data = .fields vs) (he : PE (kept X a oe pn) e te) (hb : attributeBase e n X.env (eval e X.env) = eval e X.env := by rfl) :
    PE (kept X a oe pn) (.Attribute e n pos) (tXfP X.K a cls d n te) := pe_xfP (X := kept X a oe pn) List.mem_cons_self hz hf he hb
end

section
variable {X : Cx} {CX : CXT} {k : Nat} {f : Addr} {fd : FuncData} {ps : List Str} {sp : Sp} {x : Str} {p pos : Pos} {e : Expr} {es : List Expr} {t : TA}
/-- f(e, ..) in a try: what it raises goes to the wish that the slots at hand have -/
def tCallX (sp : Sp) (E : L2.St → XK) (t : TA) : TE := fun σ H Q => tCall sp [] (E σ) t σ H Q
theorem pe_callXs {E : L2.St → XK} (F : FnOk X.prog X.w X.K X.mg X.base CX k f fd ps sp) (hr : Room k X.A) (hg : Gl X x) (hm : X.mg x = some (.ref f)) (hk : PySem.W.keepIn X.K (.ref f) = true)
    (hb : Binds X.K fd ps []) (hx : ∀ σ, PassesAt CX X σ (E σ)) (ha : PA X (e :: es) t) (hdb : (x == ("__debug__" : Str)) = false := by decide)
    (he : starEach (e :: es) X.env = (false, eval e X.env) :: starEach es X.env := by rfl) (hpl : (backTo pos (starEach es X.env)).any (·.1) = false := by rfl) :
    PE X (.Call (.Name x p) (e :: es) [] pos) (tCallX sp E t) := by
  constructor
  intro pins s σ H Q I h
  refine wpAny_Call_Name_kw (ld_glob I hg hm (PySem.W.callWith_K (h₀ := X.base) I.ok.mod.kin hk (thn (ha.run pos pins s σ H _ I h) fun us s1 z => ?_) he hpl) hdb)
  obtain ⟨vs, H1, J, rel, q⟩ := z
  have q' : sp vs H1 Q (E σ) := by rw [← List.append_nil vs]; exact q
  exact ⟨J.kIn, run_fnS (us := us) (vs := vs) F hr hb (hx σ) J rel q'⟩
end
/-- a test that is a choice -/
def tIfT (t u v : TT) : TT := fun σ H Q => t σ H fun c H1 => if c = true then u σ H1 Q else v σ H1 Q
theorem pt_ifExp {X : Cx} {a b c : Expr} {pos : Pos} {tc ta tb : TT} (hc : PT X c tc) (ha : PT X a ta) (hb : PT X b tb) : PT X (.IfExp c a b pos) (tIfT tc ta tb) := by
  refine ⟨fun pins s σ H Q I h => ?_⟩
  refine PyProof.Rows.isTrue_IfExp (thn (hc.run pins s σ H _ I h) fun d s1 ⟨H1, I1, q1⟩ => ?_)
  cases d with
  | true => exact ha.run pins s1 σ H1 Q I1 q1
  | false => exact hb.run pins s1 σ H1 Q I1 q1
end Zg
namespace Zd
open PySem PySem.Spec PyProof.Rows L2 Zg
def bIf (c a b : Env → M Bool) (ρ : Env) : M Bool := c ρ >>= fun x => if x = true then a ρ else b ρ
theorem jb_if {Z : Cz} {Er : ErW} {O : List Nat} {tt tu tv : TT} {mb mc md : Env → M Bool} (hc : JB Z Er O tt mb) (ha : JB Z Er O tu mc) (hb : JB Z Er O tv md) : JB Z Er O (tIfT tt tu tv) (bIf mb mc md) := fun σ H p ρ S Q hE hS q =>
  hc σ H p ρ S _ hE hS ((q.bnd xE).mono fun d S1 H1 p1 e1 s1 q1 v hv => by
    subst hv
    cases v with
    | true => exact ha σ H1 p1 ρ S1 Q (hE.ext e1 hS) s1 q1
    | false => exact hb σ H1 p1 ρ S1 Q (hE.ext e1 hS) s1 q1)
end Zd

namespace Zd
open PySem PySem.Spec PyProof.Rows L2
/-! ### data without places; a call in an empty store, whose answer stands still -/
mutual
def noLoc : Dat → Bool
  | .loc _ => false
  | .tup ds => noLocs ds
  | .lst ds => noLocs ds
  | .dic _ ds => noLocs ds
  | .obj _ _ ds => noLocs ds
  | _ => true
def noLocs : List Dat → Bool
  | [] => true
  | d :: ds => noLoc d && noLocs ds
end
def frzs (f : Dat → Option Dat) : List Dat → Option (List Dat)
  | [] => some []
  | d :: ds => match f d with
    | some e => match frzs f ds with
      | some es => some (e :: es)
      | none => none
    | none => none
def frz (S : List Dat) : Nat → Dat → Option Dat
  | 0, _ => none
  | n + 1, d => match d with
    | .loc k => match S[k]? with
      | some t => frz S n t
      | none => none
    | .tup ds => match frzs (frz S n) ds with
      | some es => some (.tup es)
      | none => none
    | .lst ds => match frzs (frz S n) ds with
      | some es => some (.lst es)
      | none => none
    | .dic ks ds => match frzs (frz S n) ds with
      | some es => some (.dic ks es)
      | none => none
    | .obj c fs ds => match frzs (frz S n) ds with
      | some es => some (.obj c fs es)
      | none => none
    | .non => some .non
    | .bl b => some (.bl b)
    | .int i => some (.int i)
    | .str x => some (.str x)
    | .ty x => some (.ty x)
    | .cls x => some (.cls x)
    | .scr x => some (.scr x)
section
variable {Z : Cz} {H : Hp} {p pc : Pl} {S : List Dat}
mutual
theorem IsD.still (hs : ∀ a, pc.has a → p.has a) : ∀ (d : Dat) {v : V}, noLoc d = true → IsD Z H p v d → IsD Z H pc v d
  | .non, _, _, h => isD_non.mpr (isD_non.mp h)
  | .bl b, _, _, h => isD_bl.mpr (isD_bl.mp h)
  | .int i, _, _, h => isD_int.mpr (isD_int.mp h)
  | .str x, _, _, h => isD_str.mpr (isD_str.mp h)
  | .ty n, _, _, h => isD_ty.mpr (isD_ty.mp h)
  | .cls c, _, _, h => by unfold IsD at h ⊢; exact h
  | .scr ns, _, _, h => by
    obtain ⟨a, e, h⟩ := isD_scr.mp h
    exact isD_scr.mpr ⟨a, e, h.imp (fun q => ⟨q.1, fun z => q.2 (hs a z)⟩) id⟩
  | .tup ds, _, n, h => by
    obtain ⟨a, vs, e, h1, h2⟩ := isD_tup.mp h
    exact isD_tup.mpr ⟨a, vs, e, h1.imp (fun q => ⟨q.1, fun z => q.2 (hs a z)⟩) id, IsDs.still hs ds (by rw [noLoc] at n; exact n) h2⟩
  | .lst ds, _, n, h => by
    obtain ⟨a, vs, e, h1, h2⟩ := isD_lst.mp h
    exact isD_lst.mpr ⟨a, vs, e, ⟨h1.1, fun z => h1.2 (hs a z)⟩, IsDs.still hs ds (by rw [noLoc] at n; exact n) h2⟩
  | .dic ks ds, _, n, h => by
    obtain ⟨a, vs, e, h1, hl, h2⟩ := isD_dic.mp h
    exact isD_dic.mpr ⟨a, vs, e, ⟨h1.1, fun z => h1.2 (hs a z)⟩, hl, IsDs.still hs ds (by rw [noLoc] at n; exact n) h2⟩
  | .obj c fs ds, _, n, h => by
    obtain ⟨a, vs, e, h1, hl, h2⟩ := isD_obj.mp h
    exact isD_obj.mpr ⟨a, vs, e, ⟨h1.1, fun z => h1.2 (hs a z)⟩, hl, IsDs.still hs ds (by rw [noLoc] at n; exact n) h2⟩
  | .loc k, _, n, h => by cases n
theorem IsDs.still (hs : ∀ a, pc.has a → p.has a) : ∀ (ds : List Dat) {vs : List V}, noLocs ds = true → IsDs Z H p vs ds → IsDs Z H pc vs ds
  | [], _, _, h => isDs_nil.mpr (isDs_nil.mp h)
  | d :: ds, _, n, h => by
    obtain ⟨v, r, e, h1, h2⟩ := isDs_cons.mp h
    rw [noLocs, Bool.and_eq_true] at n
    exact isDs_cons.mpr ⟨v, r, e, IsD.still hs d n.1 h1, IsDs.still hs ds n.2 h2⟩
end
theorem frzs_is {f : Dat → Option Dat} (hf : ∀ d e v, f d = some e → IsD Z H p v d → IsD Z H pc v e) : ∀ (ds : List Dat) {es : List Dat} {vs : List V}, frzs f ds = some es → IsDs Z H p vs ds → IsDs Z H pc vs es
  | [], _, _, e, h => by cases e; exact isDs_nil.mpr (isDs_nil.mp h)
  | d :: ds, _, _, e, h => by
    obtain ⟨v, r, ev, h1, h2⟩ := isDs_cons.mp h
    unfold frzs at e
    split at e
    · rename_i e1 q1
      split at e
      · rename_i es1 q2
        cases e
        exact isDs_cons.mpr ⟨v, r, ev, hf _ _ _ q1 h1, frzs_is hf ds q2 h2⟩
      · cases e
    · cases e
theorem frz_is (s : IsS Z H p S) (hs : ∀ a, pc.has a → p.has a ∧ a ∉ p.α) : ∀ (n : Nat) (d e : Dat) (v : V), frz S n d = some e → (IsD Z H p v d → IsD Z H pc v e) ∧ (∀ a, v = .ref a → ¬ pc.has a → IsTop Z H p a d → IsD Z H pc v e)
  | 0, _, _, _, h => by cases h
  | n + 1, d, e, v, h => by
    have ih := frz_is s hs n
    have its : ∀ (ds : List Dat) (es : List Dat) (vs : List V), frzs (frz S n) ds = some es → IsDs Z H p vs ds → IsDs Z H pc vs es := fun ds es vs h k => frzs_is (fun d e v h k => (ih d e v h).1 k) ds h k
    have nh : ∀ a, ¬ p.has a → ¬ pc.has a := fun a h z => h (hs a z).1
    cases d with
    | loc k =>
      unfold frz at h
      refine ⟨fun g => ?_, fun a _ _ g => g.elim⟩
      obtain ⟨a, ev, ha⟩ := isD_loc.mp g
      dsimp only at h
      split at h
      · rename_i t et
        exact (ih t e v h).2 a ev (fun z => (hs a z).2 (List.mem_of_getElem? ha)) (s.at_ k a t ha et)
      · cases h
    | tup ds =>
      unfold frz at h
      dsimp only at h
      split at h
      · rename_i es ee
        cases h
        refine ⟨fun g => ?_, fun a _ _ g => g.elim⟩
        obtain ⟨a, vs, ev, h1, h2⟩ := isD_tup.mp g
        exact isD_tup.mpr ⟨a, vs, ev, h1.imp (fun q => ⟨q.1, nh a q.2⟩) id, its _ _ _ ee h2⟩
      · cases h
    | lst ds =>
      unfold frz at h
      dsimp only at h
      split at h
      · rename_i es ee
        cases h
        refine ⟨fun g => ?_, fun a ev na g => ?_⟩
        · obtain ⟨a, vs, ev, h1, h2⟩ := isD_lst.mp g
          exact isD_lst.mpr ⟨a, vs, ev, ⟨h1.1, nh a h1.2⟩, its _ _ _ ee h2⟩
        · obtain ⟨vs, h1, h2⟩ := g
          exact isD_lst.mpr ⟨a, vs, ev, ⟨h1, na⟩, its _ _ _ ee h2⟩
      · cases h
    | dic ks ds =>
      unfold frz at h
      dsimp only at h
      split at h
      · rename_i es ee
        cases h
        refine ⟨fun g => ?_, fun a ev na g => ?_⟩
        · obtain ⟨a, vs, ev, h1, hl, h2⟩ := isD_dic.mp g
          exact isD_dic.mpr ⟨a, vs, ev, ⟨h1.1, nh a h1.2⟩, hl, its _ _ _ ee h2⟩
        · obtain ⟨vs, h1, hl, h2⟩ := g
          exact isD_dic.mpr ⟨a, vs, ev, ⟨h1, na⟩, hl, its _ _ _ ee h2⟩
      · cases h
    | obj c fs ds =>
      unfold frz at h
      dsimp only at h
      split at h
      · rename_i es ee
        cases h
        refine ⟨fun g => ?_, fun a ev na g => ?_⟩
        · obtain ⟨a, vs, ev, h1, hl, h2⟩ := isD_obj.mp g
          exact isD_obj.mpr ⟨a, vs, ev, ⟨h1.1, nh a h1.2⟩, hl, its _ _ _ ee h2⟩
        · obtain ⟨dx, vs, h1, hl, h2⟩ := g
          exact isD_obj.mpr ⟨a, vs, ev, ⟨⟨dx, h1⟩, na⟩, hl, its _ _ _ ee h2⟩
      · cases h
    | non => cases h; exact ⟨fun g => isD_non.mpr (isD_non.mp g), fun a _ _ g => g.elim⟩
    | bl b => cases h; exact ⟨fun g => isD_bl.mpr (isD_bl.mp g), fun a _ _ g => g.elim⟩
    | int i => cases h; exact ⟨fun g => isD_int.mpr (isD_int.mp g), fun a _ _ g => g.elim⟩
    | str x => cases h; exact ⟨fun g => isD_str.mpr (isD_str.mp g), fun a _ _ g => g.elim⟩
    | ty x => cases h; exact ⟨fun g => isD_ty.mpr (isD_ty.mp g), fun a _ _ g => g.elim⟩
    | cls x => cases h; exact ⟨fun g => by unfold IsD at g ⊢; exact g, fun a _ _ g => g.elim⟩
    | scr x =>
      cases h
      refine ⟨fun g => ?_, fun a _ _ g => g.elim⟩
      obtain ⟨a, e, h⟩ := isD_scr.mp g
      exact isD_scr.mpr ⟨a, e, h.imp (fun q => ⟨q.1, nh a q.2⟩) id⟩
end
/-- a call in an empty store -/
def callF (F : List Dat → M Dat) (ds : List Dat) : M Dat := fun S => match noLocs ds with
  | true => match F ds [] with
    | .ok d S' => match frz S' 40 d with
      | some e => .ok e S
      | none => .bad
    | .er c fs S' => match frzs (frz S' 40) fs with
      | some es => .er c es S
      | none => .bad
    | .bad => .bad
  | false => .bad
/-- a def that is called in some way -/
def Via (Z : Cz) (n : Nat) (F G : List Dat → M Dat) : Prop := ∀ (Er : ErW) (H : Hp) (p : Pl) (S : List Dat) (vs : List V) (ds : List Dat) (Q : VK) (E : XK), vs.length = n → IsDs Z H p vs ds → IsS Z H p S →
  Post Z Er ExtE (calm (G ds) S) H p (fun d _ H' p' => ∀ v, IsD Z H' p' v d → Q v H') → spD Z n F vs H Q E
section
variable {Z : Cz} {Er : ErW} {O : List Nat} {te ta tb : TE} {ts : TS} {tl : TA} {m m1 m2 : Env → M Dat} {ml : Env → M (List Dat)} {ms : Env → M Flow}
theorem via_id {n : Nat} {F : List Dat → M Dat} : Via Z n F F := fun _ _ _ _ _ _ _ _ hn hd hS q => call_sp hn hd hS q
abbrev allP (p : Pl) : Pl := ⟨[], [], p.γ ++ p.ω ++ p.α⟩
theorem allP_has {p : Pl} {a : Addr} : (allP p).has a ↔ p.has a := by
  unfold Pl.has
  constructor
  · rintro (h | h | h)
    · cases h
    · cases h
    · rcases List.mem_append.mp h with h | h
      · rcases List.mem_append.mp h with h | h
        · exact .inr (.inr h)
        · exact .inr (.inl h)
      · exact .inl h
  · rintro (h | h | h)
    · exact .inr (.inr (List.mem_append_right _ h))
    · exact .inr (.inr (List.mem_append_left _ (List.mem_append_right _ h)))
    · exact .inr (.inr (List.mem_append_left _ (List.mem_append_left _ h)))
theorem allP_s {H : Hp} {p : Pl} {S : List Dat} (s : IsS Z H p S) : IsS Z H (allP p) [] :=
  ⟨rfl, List.nodup_nil, nofun, nofun, fun a h => s.tracked (allP_has.mp (.inr h)), fun n a d h _ => by simp at h⟩
/-- behind a call in an empty store all stands as it stood -/
theorem allP_back {H H' : Hp} {p p' : Pl} {S S' : List Dat} (s : IsS Z H p S) (e : ExtE H (allP p) H' p') (s' : IsS Z H' p' S') : Same H H' ∧ ∀ a, p.has a → p'.has a ∧ a ∉ p'.α := by
  refine ⟨fun b u h => e.k b u h List.not_mem_nil, fun a h => ?_⟩
  have g : a ∈ p'.γ := by
    rw [e.γ]
    rcases allP_has.mpr h with h | h | h
    · cases h
    · cases h
    · exact h
  exact ⟨.inr (.inr g), s'.dg a g⟩
theorem via_F {n : Nat} {F : List Dat → M Dat} : Via Z n F (callF F) := fun Er H p S vs ds Q E hn hd hS q => by
  unfold calm callF at q
  cases nl : noLocs ds with
  | false => rw [nl] at q; exact q.elim
  | true =>
    rw [nl] at q
    refine ⟨hn, allP p, ds, [], rfl, IsDs.still (fun a h => allP_has.mp h) ds nl hd, allP_s hS, ?_⟩
    cases eF : F ds [] with
    | bad => rw [eF] at q; exact q.elim
    | er c fs S' =>
      rw [eF] at q
      dsimp only at q
      split at q
      · rename_i z; split at z <;> cases z
      · exact q.elim
    | ok d S' =>
      rw [eF] at q
      dsimp only at q
      cases ez : frz S' 40 d with
      | none => rw [ez] at q; exact q.elim
      | some e =>
        rw [ez] at q
        intro H' p' ee s v hv
        obtain ⟨sm, hs⟩ := allP_back hS ee s
        exact q H' p (ExtE.same sm) (hS.ext sm) v ((frz_is s hs 40 d e v ez).1 hv)
theorem j_callV {F G : List Dat → M Dat} {n : Nat} {E : XK} (V : Via Z n F G) (hl : JA Z Er O tl ml) (hn : ∀ ρ S ds S', ml ρ S = .ok ds S' → ds.length = n) : JD Z Er O (tCall (spD Z n F) [] E tl) (xCall G ml) := fun σ H p ρ S Q hE hS q => by
  refine hl σ H p ρ S _ hE hS ?_
  have q2 := q.bnd xE
  unfold Post at q2 ⊢
  cases z : ml ρ S with
  | ok ds S1 =>
    rw [z] at q2
    intro H1 p1 e1 s1 vs hv
    have hlen := hn ρ S ds S1 z
    show spD Z n F (vs ++ []) H1 Q E
    rw [List.append_nil]
    exact V Er H1 p1 S1 vs ds Q E (hv.len.trans hlen) hv s1 (q2 H1 p1 e1 s1)
  | er c fs S1 => rw [z] at q2; exact q2
  | bad => rw [z] at q2; exact q2
/-! ### instances, places or not -/
def insD (S : List Dat) : Dat → Option (String × List Str)
  | .obj c fs _ => some (c, fs)
  | .loc n => match S[n]? with
    | some (.obj c fs _) => some (c, fs)
    | _ => none
  | _ => none
theorem zip_lookup {m : Str} : ∀ {fs : List Str} {vs : List V}, fs.contains m = false → (fs.zip vs).lookup m = none
  | [], _, _ => by cases ‹List V› <;> rfl
  | f :: fs, [], _ => rfl
  | f :: fs, v :: vs, h => by
    rw [List.contains_cons, Bool.or_eq_false_iff] at h
    rw [List.zip_cons_cons, List.lookup_cons, h.1]
    exact zip_lookup h.2
theorem ins_is {H : Hp} {p : Pl} {S : List Dat} {v : V} {d : Dat} {c : String} {fs : List Str} (s : IsS Z H p S) (hv : IsD Z H p v d) (e : insD S d = some (c, fs)) : ∃ a dx vs, v = .ref a ∧ H a = some (.ins (Z.κ c) dx (fs.zip vs)) := by
  unfold insD at e
  split at e
  · cases e
    obtain ⟨a, vs, rfl, ⟨⟨dx, h1⟩, _⟩, _, _⟩ := isD_obj.mp hv
    exact ⟨a, dx, vs, rfl, h1⟩
  · split at e
    · rename_i et
      cases e
      obtain ⟨a, rfl, ha⟩ := isD_loc.mp hv
      obtain ⟨dx, vs, h1, _, _⟩ := s.at_ _ a _ ha et
      exact ⟨a, dx, vs, rfl, h1⟩
    · cases e
  · cases e
/-- x.m(..) -/
def xMeth (c : String) (m : Str) (G : List Dat → M Dat) (a : Env → M Dat) (l : Env → M (List Dat)) (ρ : Env) : M Dat := a ρ >>= fun x => fun S => match insD S x with
  | some (c', fs) => match decide (c' = c) && !fs.contains m with
    | true => (l ρ >>= fun ds => calm (G (x :: ds))) S
    | false => .bad
  | none => .bad
theorem j_meth {c : String} {mn : Str} {F G : List Dat → M Dat} {n : Nat} {E : XK} (V : Via Z (n + 1) F G) (ha : JD Z Er O ta m) (hl : JA Z Er O tl ml) (hn : ∀ ρ S ds S', ml ρ S = .ok ds S' → ds.length = n) : JD Z Er O (tMeth (Z.κ c) mn (spD Z (n + 1) F) [] E ta tl) (xMeth c mn G m ml) := fun σ H p ρ S Q hE hS q =>
  ha σ H p ρ S _ hE hS ((q.bnd xE).mono fun d S1 H1 p1 e1 s1 q1 v hv => by
    cases ei : insD S1 d with
    | none => simp only [ei] at q1; exact q1.elim
    | some o =>
      obtain ⟨c', fs⟩ := o
      simp only [ei] at q1
      cases eb : decide (c' = c) && !fs.contains mn with
      | false => rw [eb] at q1; exact q1.elim
      | true =>
        rw [eb] at q1
        dsimp only at q1
        rw [Bool.and_eq_true, decide_eq_true_eq, Bool.not_eq_true'] at eb
        obtain ⟨ec, nm⟩ := eb
        subst ec
        obtain ⟨a, dx, vs, rfl, h1⟩ := ins_is s1 hv ei
        refine ⟨a, dx, _, rfl, h1, zip_lookup nm, ?_⟩
        refine hl σ H1 p1 ρ S1 _ (hE.ext e1 hS) s1 ?_
        have q2 := q1.bnd xE
        unfold Post at q2 ⊢
        cases z : ml ρ S1 with
        | ok ds S2 =>
          rw [z] at q2
          intro H2 p2 e2 s2 ws hw
          have hlen := hn ρ S1 ds S2 z
          rw [List.append_nil]
          exact V Er H2 p2 S2 _ (d :: ds) Q E (by rw [List.length_cons, hw.len, hlen]) (isDs_cons.mpr ⟨_, _, rfl, hv.ext e2.s, hw⟩) s2 (q2 H2 p2 e2 s2)
        | er c fs S1 => rw [z] at q2; exact q2
        | bad => rw [z] at q2; exact q2)
/-- C(..) in some way -/
def MkVia (Z : Cz) (c : String) (n : Nat) (F G : List Dat → M Dat) : Prop := ∀ (Er : ErW) (H : Hp) (p : Pl) (S : List Dat) (vs : List V) (ds : List Dat) (Q : VK) (E : XK), vs.length = n → IsDs Z H p vs ds → IsS Z H p S →
  Post Z Er ExtE (calm (G ds) S) H p (fun d _ H' p' => ∀ v, IsD Z H' p' v d → Q v H') → ∀ x dx, H x = none → H dx = none → dx ≠ x → spD Z (n + 1) F (.ref x :: vs) (L2.upd (L2.upd H dx (.own x)) x (.ins (Z.κ c) dx [])) (fun v H2 => v = .non ∧ Q (.ref x) H2) E
theorem mk_id {c : String} {n : Nat} {F : List Dat → M Dat} : MkVia Z c n F (mkNew c F) := fun Er H p S vs ds Q E hn hd hS q x dx nx nd ne => by
  obtain ⟨e2, s2⟩ := push_loc hS nx nd ne c rfl
  have q3 := q.calm Er
  have q4 : Post Z Er ExtE ((calm (F (.loc S.length :: ds)) >>= fun r => M.need (isNon r) >>= fun _ => pure (Dat.loc S.length)) (S ++ [.obj c [] []])) H p _ := q3
  have q5 := (q4.up xE e2).bnd xE
  have hx : IsD Z (L2.upd (L2.upd H dx (.own x)) x (.ins (Z.κ c) dx [])) ⟨p.α ++ [x], p.ω, p.γ⟩ (.ref x) (.loc S.length) := (isD_loc (Z := Z)).mpr ⟨x, rfl, by rw [← hS.len]; simp⟩
  refine call_sp (S := S ++ [.obj c [] []]) (ds := .loc S.length :: ds) (by rw [List.length_cons, hn]) (isDs_cons.mpr ⟨.ref x, vs, rfl, hx, hd.ext e2.s⟩) s2 (q5.mono fun d S3 H3 p3 e3 s3 q6 v hv3 => ?_)
  obtain ⟨cn, q7⟩ := q6.need
  rw [isNon_is cn] at hv3
  exact ⟨isD_non.mp hv3, q7.pure xE s3 (.ref x) (hx.ext e3.s)⟩
theorem mk_F {c : String} {n : Nat} {F : List Dat → M Dat} : MkVia Z c n F (callF (mkNew c F)) := fun Er H p S vs ds Q E hn hd hS q x dx nx nd ne => by
  unfold calm callF at q
  cases nl : noLocs ds with
  | false => rw [nl] at q; exact q.elim
  | true =>
    rw [nl] at q
    refine mk_id (fun _ _ _ _ _ _ => False) H (allP p) [] vs ds Q E hn (IsDs.still (fun a h => allP_has.mp h) ds nl hd) (allP_s hS) ?_ x dx nx nd ne
    unfold calm
    cases eF : mkNew c F ds [] with
    | bad => rw [eF] at q; exact q.elim
    | er c fs S' =>
      rw [eF] at q
      dsimp only at q
      split at q
      · rename_i z; split at z <;> cases z
      · exact q.elim
    | ok d S' =>
      rw [eF] at q
      dsimp only at q
      cases ez : frz S' 40 d with
      | none => rw [ez] at q; exact q.elim
      | some e =>
        rw [ez] at q
        intro H' p' ee s v hv
        obtain ⟨sm, hs⟩ := allP_back hS ee s
        exact q H' p (ExtE.same sm) (hS.ext sm) v ((frz_is s hs 40 d e v ez).1 hv)
theorem j_makeV {c : String} {F G : List Dat → M Dat} {n : Nat} {E : XK} (V : MkVia Z c n F G) (hl : JA Z Er O tl ml) (hn : ∀ ρ S ds S', ml ρ S = .ok ds S' → ds.length = n) : JD Z Er O (tMake (Z.κ c) (spD Z (n + 1) F) [] E tl) (xCall G ml) := fun σ H p ρ S Q hE hS q => by
  refine hl σ H p ρ S _ hE hS ?_
  have q2 := q.bnd xE
  unfold Post at q2 ⊢
  cases z : ml ρ S with
  | ok ds S1 =>
    rw [z] at q2
    intro H1 p1 e1 s1 vs hv x dx nx nd ne
    have hlen := hn ρ S ds S1 z
    rw [List.append_nil]
    exact V Er H1 p1 S1 vs ds Q E (hv.len.trans hlen) hv s1 (q2 H1 p1 e1 s1) x dx nx nd ne
  | er c fs S1 => rw [z] at q2; exact q2
  | bad => rw [z] at q2; exact q2
/-- x op y, both instances of the class -/
def dOwn2 (c : String) (G : List Dat → M Dat) (d e : Dat) : M Dat := fun S => match insD S d, insD S e with
  | some (c1, _), some (c2, _) => match decide (c1 = c) && decide (c2 = c) with
    | true => calm (G [d, e]) S
    | false => .bad
  | _, _ => .bad
theorem r_own2 {c : String} {F G : List Dat → M Dat} {E : XK} (V : Via Z 2 F G) : JRD Z (rOwnI (Z.κ c) (spD Z 2 F) E) (dOwn2 c G) := fun x y d e Er H p S Q hx hy s q => by
  unfold dOwn2 at q
  cases e1 : insD S d with
  | none => simp only [e1] at q; exact q.elim
  | some o1 =>
    cases e2 : insD S e with
    | none => simp only [e1, e2] at q; exact q.elim
    | some o2 =>
      obtain ⟨c1, f1⟩ := o1
      obtain ⟨c2, f2⟩ := o2
      simp only [e1, e2] at q
      cases eb : decide (c1 = c) && decide (c2 = c) with
      | false => rw [eb] at q; exact q.elim
      | true =>
        rw [eb] at q
        rw [Bool.and_eq_true, decide_eq_true_eq, decide_eq_true_eq] at eb
        obtain ⟨k1, k2⟩ := eb
        subst k1 k2
        obtain ⟨a, dx, vs, rfl, ha⟩ := ins_is s hx e1
        obtain ⟨b, dy, ws, rfl, hb⟩ := ins_is s hy e2
        exact ⟨a, dx, _, b, dy, _, rfl, rfl, ha, hb, V Er H p S _ [d, e] Q E rfl (isDs_cons.mpr ⟨_, _, rfl, hx, .one hy⟩) s q⟩
/-- isinstance(x, C), x an instance of C -/
def dIsiI (c : String) (ds : List Dat) : M Dat := fun S => match ds with
  | [d, .cls c'] => match insD S d with
    | some (c1, _) => match decide (c' = c) && decide (c1 = c) with
      | true => .ok (.bl true) S
      | false => .bad
    | none => .bad
  | _ => .bad
theorem c_isiI {c : String} (T : InsT Z c) : JC Z (IsDs Z) (IsD Z) (rIsi Z.K) (dIsiI c) := fun x d Er H p S Q hx s q => by
  unfold dIsiI at q
  split at q
  · rename_i d c'
    cases ei : insD S d with
    | none => simp only [ei] at q; exact q.elim
    | some o =>
      obtain ⟨c1, fs⟩ := o
      simp only [ei] at q
      cases eb : decide (c' = c) && decide (c1 = c) with
      | false => rw [eb] at q; exact q.elim
      | true =>
        rw [eb] at q
        rw [Bool.and_eq_true, decide_eq_true_eq, decide_eq_true_eq] at eb
        obtain ⟨ec, e1⟩ := eb
        subst e1
        obtain ⟨v, w, rfl, h1, h2⟩ := isDs_two hx
        rw [ec] at h2
        obtain ⟨a, dx, vs, rfl, ha⟩ := ins_is s h1 ei
        have hw : w = .ref (Z.κ c1) := by unfold IsD at h2; exact h2
        subst hw
        exact ⟨.ref a, .ref (Z.κ c1), _, _, true, rfl, .own _, .base (.ins ha T.cl T.ha T.hn T.htk T.hm), T.me, q H p xE.refl s _ (isD_bl.mpr rfl)⟩
  · exact q.elim
/-- a field, of a place or not -/
def dFldI (c : String) (f : Str) (d : Dat) : M Dat := fun S => match d with
  | .obj c' fs ds => match decide (c' = c) with
    | true => match lkD f fs ds with
      | some x => .ok x S
      | none => .bad
    | false => .bad
  | .loc n => match S[n]? with
    | some (.obj c' fs ds) => match decide (c' = c) with
      | true => match lkD f fs ds with
        | some x => .ok x S
        | none => .bad
      | false => .bad
    | _ => .bad
  | _ => .bad
theorem j_fldI {c : String} {f : Str} {fs : List Str} (T : ClsT Z c fs) (hf : f ∈ fs) (h : JD Z Er O ta m) : JD Z Er O (tFld Z.K ta f) (xUn (dFldI c f) m) := fun σ H p ρ S Q hE hS q =>
  h σ H p ρ S _ hE hS ((q.bnd xE).mono fun d S1 H1 p1 e1 s1 q1 v hv => by
    have key : ∀ (a dx : Addr) (c' : String) (gs : List Str) (ds : List Dat) (vs : List V), v = .ref a → H1 a = some (.ins (Z.κ c') dx (gs.zip vs)) → IsDs Z H1 p1 vs ds →
        Post Z Er ExtE (match decide (c' = c) with | true => (match lkD f gs ds with | some x => .ok x S1 | none => .bad) | false => .bad) H1 p1 (fun a _ H' p' => ∀ b, IsD Z H' p' b a → Q b H') → ∃ a C dx fs w, v = .ref a ∧ H1 a = some (.ins C dx fs) ∧ Cls Z.K C ∧ NoAttr Z.K C f ∧ fs.lookup f = some w ∧ Q w H1 := fun a dx c' gs ds vs ev ha hds z => by
      cases eb : decide (c' = c) with
      | false => rw [eb] at z; exact z.elim
      | true =>
        rw [eb] at z
        dsimp only at z
        have ec := of_decide_eq_true eb
        rw [ec] at ha
        cases el : lkD f gs ds with
        | none => rw [el] at z; exact z.elim
        | some x =>
          rw [el] at z
          obtain ⟨w, g1, g2⟩ := lk_rel hds el
          exact ⟨a, _, dx, _, w, ev, ha, T.cl, T.no f hf, g1, z H1 p1 xE.refl s1 w g2⟩
    unfold dFldI at q1
    cases d with
    | obj c' gs ds =>
      obtain ⟨a, vs, ev, ⟨⟨dx, ha⟩, _⟩, _, hds⟩ := isD_obj.mp hv
      exact key a dx c' gs ds vs ev ha hds q1
    | loc n =>
      dsimp only at q1
      split at q1
      · rename_i c' gs ds et
        obtain ⟨a, ev, ha⟩ := isD_loc.mp hv
        obtain ⟨dx, vs, h1, _, hds⟩ := s1.at_ n a _ ha et
        exact key a dx c' gs ds vs ev h1 hds q1
      · exact q1.elim
    | _ => exact q1.elim)
end
end Zd

namespace Zd
open PySem PySem.Spec PyProof.Rows L2
/-! ### new places, dicts and lists that are places -/
def putKN (k : Key) (ks : List Key) : List Key := if (ks.any fun g => decide (g = k)) = true then ks else ks ++ [k]
def setKV (k : Key) (x : Dat) : List Key → List Dat → List Dat
  | g :: gs, d :: ds => (if g = k then x else d) :: setKV k x gs ds
  | _, _ => []
def putKV (k : Key) (x : Dat) (ks : List Key) (ds : List Dat) : List Dat := if (ks.any fun g => decide (g = k)) = true then setKV k x ks ds else ds ++ [x]
def dropDs (k : Key) : List Key → List Dat → List Dat
  | g :: gs, d :: ds => if g = k then dropDs k gs ds else d :: dropDs k gs ds
  | _, _ => []
section
variable {Z : Cz} {Er : ErW} {O : List Nat} {te ta tb tc : TE} {ts : TS} {tl : TA} {tt : TT} {m m1 m2 m3 : Env → M Dat} {mb : Env → M Bool} {ml : Env → M (List Dat)} {ms : Env → M Flow}
theorem any_zip {k : Key} : ∀ {ks : List Key} {vs : List V}, ks.length = vs.length → ((ks.zip vs).any fun kv => decide (kv.1 = k)) = ks.any fun g => decide (g = k)
  | [], _, _ => rfl
  | g :: gs, v :: vs, h => by
    rw [List.zip_cons_cons, List.any_cons, List.any_cons, any_zip (Nat.succ.inj h)]
theorem setKV_rel {H : Hp} {p : Pl} {k : Key} {x : Dat} {y : V} (hx : IsD Z H p y x) : ∀ {ks : List Key} {ds : List Dat} {vs : List V}, ks.length = vs.length → IsDs Z H p vs ds → ∃ ws, ((ks.zip vs).map fun kv => if kv.1 = k then (kv.1, y) else kv) = ks.zip ws ∧ ks.length = ws.length ∧ IsDs Z H p ws (setKV k x ks ds)
  | [], ds, vs, hl, h => by
    have e : vs = [] := List.length_eq_zero_iff.mp hl.symm
    subst e
    exact ⟨[], rfl, rfl, by cases ds <;> exact isDs_nil.mpr rfl⟩
  | g :: gs, [], vs, hl, h => by rw [isDs_nil.mp h] at hl; cases hl
  | g :: gs, c :: ds, _, hl, h => by
    obtain ⟨v, r, rfl, h1, h2⟩ := isDs_cons.mp h
    obtain ⟨ws, e1, e2, e3⟩ := setKV_rel (k := k) hx (Nat.succ.inj hl) h2
    by_cases q : g = k
    · refine ⟨y :: ws, ?_, by rw [List.length_cons, List.length_cons, e2], ?_⟩
      · rw [List.zip_cons_cons, List.map_cons, e1, List.zip_cons_cons]
        dsimp only
        rw [if_pos q]
      · unfold setKV
        rw [if_pos q]
        exact isDs_cons.mpr ⟨y, ws, rfl, hx, e3⟩
    · refine ⟨v :: ws, ?_, by rw [List.length_cons, List.length_cons, e2], ?_⟩
      · rw [List.zip_cons_cons, List.map_cons, e1, List.zip_cons_cons]
        dsimp only
        rw [if_neg q]
      · unfold setKV
        rw [if_neg q]
        exact isDs_cons.mpr ⟨v, ws, rfl, h1, e3⟩
theorem putK_rel {H : Hp} {p : Pl} {k : Key} {x : Dat} {y : V} (hx : IsD Z H p y x) {ks : List Key} {ds : List Dat} {vs : List V} (hl : ks.length = vs.length) (h : IsDs Z H p vs ds) : ∃ ws, putK (ks.zip vs) k y = (putKN k ks).zip ws ∧ (putKN k ks).length = ws.length ∧ IsDs Z H p ws (putKV k x ks ds) := by
  unfold putK putKN putKV
  rw [any_zip hl]
  by_cases c : (ks.any fun g => decide (g = k)) = true
  · rw [if_pos c, if_pos c, if_pos c]
    exact setKV_rel hx hl h
  · rw [if_neg c, if_neg c, if_neg c]
    refine ⟨vs ++ [y], ?_, by rw [List.length_append, List.length_append, hl]; rfl, h.append (.one hx)⟩
    rw [List.zip_append hl]
    rfl
theorem dropK_rel {H : Hp} {p : Pl} {k : Key} : ∀ {ks : List Key} {ds : List Dat} {vs : List V}, ks.length = vs.length → IsDs Z H p vs ds → ∃ ws, dropK (ks.zip vs) k = (ks.filter fun g => decide (g ≠ k)).zip ws ∧ (ks.filter fun g => decide (g ≠ k)).length = ws.length ∧ IsDs Z H p ws (dropDs k ks ds)
  | [], ds, vs, hl, h => by
    have e : vs = [] := List.length_eq_zero_iff.mp hl.symm
    subst e
    exact ⟨[], rfl, rfl, by cases ds <;> exact isDs_nil.mpr rfl⟩
  | g :: gs, [], vs, hl, h => by rw [isDs_nil.mp h] at hl; cases hl
  | g :: gs, c :: ds, _, hl, h => by
    obtain ⟨v, r, rfl, h1, h2⟩ := isDs_cons.mp h
    obtain ⟨ws, e1, e2, e3⟩ := dropK_rel (k := k) (Nat.succ.inj hl) h2
    unfold dropK at e1 ⊢
    by_cases q : g = k
    · refine ⟨ws, ?_, ?_, ?_⟩
      · rw [List.zip_cons_cons, List.filter_cons_of_neg (by simpa using q), List.filter_cons_of_neg (by simpa using q), e1]
      · rw [List.filter_cons_of_neg (by simpa using q), e2]
      · unfold dropDs
        rw [if_pos q]
        exact e3
    · refine ⟨v :: ws, ?_, ?_, ?_⟩
      · rw [List.zip_cons_cons, List.filter_cons_of_pos (by simpa using q), List.filter_cons_of_pos (by simpa using q), List.zip_cons_cons, e1]
      · rw [List.filter_cons_of_pos (by simpa using q), List.length_cons, List.length_cons, e2]
      · unfold dropDs
        rw [if_neg q]
        exact isDs_cons.mpr ⟨v, ws, rfl, h1, e3⟩
/-- a new object becomes a place -/
def xNewLo (a : Env → M Dat) (ρ : Env) : M Dat := a ρ >>= fun d => fun S => .ok (.loc S.length) (S ++ [d])
theorem j_newLo (h : JF Z Er O ta m) : JD Z Er O ta (xNewLo m) := fun σ H p ρ S Q hE hS q =>
  h σ H p ρ S _ hE hS (q.bndK.mono fun d S1 H1 p1 e1 s1 q1 a na na1 nh hs ht => by
    have q2 : ∀ H' p', ExtE H p H' p' → IsS Z H' p' (S1 ++ [d]) → ∀ b, IsD Z H' p' b (.loc S1.length) → Q b H' := q1
    have l2 : ∀ b, (⟨p1.α ++ [a], p1.ω, p1.γ⟩ : Pl).has b → (⟨p1.α, p1.ω ++ [a], p1.γ⟩ : Pl).has b := fun b h => by
      rcases h with h | h | h
      · rcases List.mem_append.mp h with h | h
        · exact .inl h
        · exact .inr (.inl (List.mem_append_right _ h))
      · exact .inr (.inl (List.mem_append_left _ h))
      · exact .inr (.inr h)
    have na1 : a ∉ p1.α := fun z => nh (.inl z)
    have hα : (p1.α ++ [a])[S1.length]? = some a := by rw [← hs.len]; simp
    refine q2 H1 ⟨p1.α ++ [a], p1.ω, p1.γ⟩ ⟨?_, e1.ω, e1.γ, fun b u z n => e1.k b u z n, e1.t⟩ ⟨?_, ?_, fun b h => ⟨fun z => ?_, (hs.dj b (List.mem_append_left _ h)).2⟩, fun b h z => ?_, fun b h => hs.wt b (h.imp (List.mem_append_left _) id), fun n b x h1 h2 => ?_⟩ (.ref a) ?_
    · obtain ⟨β, g1, g2⟩ := e1.α
      refine ⟨β ++ [a], by rw [g1, List.append_assoc], fun b h => ?_⟩
      rcases List.mem_append.mp h with h | h
      · exact g2 b h
      · rw [List.mem_singleton.mp h]; exact na
    · rw [List.length_append, List.length_append, hs.len]; rfl
    · exact List.nodup_append.mpr ⟨hs.nd, by simp, fun b h c h2 e => na1 (by rw [← List.mem_singleton.mp h2, ← e]; exact h)⟩
    · rcases List.mem_append.mp z with z | z
      · exact (hs.dj b (List.mem_append_left _ h)).1 z
      · exact nh (.inr (.inl (by rw [← List.mem_singleton.mp z]; exact h)))
    · rcases List.mem_append.mp z with z | z
      · exact hs.dg b h z
      · exact nh (.inr (.inr (by rw [← List.mem_singleton.mp z]; exact h)))
    · have mv : ∀ (n : Nat) (x : Addr), p1.α[n]? = some x → (p1.α ++ [a])[n]? = some x := fun n x h => by
        rw [List.getElem?_append_left (List.getElem?_eq_some_iff.mp h).1]; exact h
      by_cases c : n < S1.length
      · rw [List.getElem?_append_left c] at h2
        rw [List.getElem?_append_left (by rw [hs.len]; exact c)] at h1
        exact IsTop.mv (p := ⟨p1.α, p1.ω ++ [a], p1.γ⟩) (p' := ⟨p1.α ++ [a], p1.ω, p1.γ⟩) mv l2 (hs.at_ n b x h1 h2)
      · have lt := (List.getElem?_eq_some_iff.mp h2).1
        rw [List.length_append, List.length_singleton] at lt
        have e : n = S1.length := by omega
        subst e
        rw [hα] at h1
        cases h1
        rw [List.getElem?_append_right (Nat.le_refl _), Nat.sub_self] at h2
        cases h2
        exact IsTop.mv (p := ⟨p1.α, p1.ω ++ [a], p1.γ⟩) (p' := ⟨p1.α ++ [a], p1.ω, p1.γ⟩) mv l2 ht
    · exact (isD_loc (Z := Z) (H := H1) (p := ⟨p1.α ++ [a], p1.ω, p1.γ⟩)).mpr ⟨a, rfl, hα⟩)
/-- list(x), dict(x): new objects -/
abbrev rListOf (K : PySem.W.Frag) : List V → Hp → VK → Prop := fun xs H Q => ∃ p ys, xs = [.ref p] ∧ (SqL K H p ys ∨ SqT K H p ys) ∧ ∀ l, H l = none → Q (.ref l) (L2.upd H l (.lst ys))
abbrev rDictOf : List V → Hp → VK → Prop := fun xs H Q => ∃ (a : Addr) (kvs : List (Key × V)), xs = [.ref a] ∧ Rd H a (.dK kvs) ∧ ∀ p, H p = none → Q (.ref p) (L2.upd H p (.dK kvs))
def dDictOf (ds : List Dat) : M Dat := match ds with
  | [.dic ks ds] => pure (.dic ks ds)
  | _ => M.no
theorem jf_list (hl : JA Z Er O tl ml) : JF Z Er O (tCB (rListOf Z.K) tl) (xCB dList ml) := fun σ H p ρ S Q hE hS q =>
  hl σ H p ρ S _ hE hS ((q.bnd xE).mono fun ds S1 H1 p1 e1 s1 q1 vs hv => by
    have key : ∀ (a : Addr) (us : List V) (es : List Dat), (SqL Z.K H1 a us ∨ SqT Z.K H1 a us) → IsDs Z H1 p1 us es → vs = [.ref a] → Post Z Er ExtE ((pure (Dat.lst es) : M Dat) S1) H1 p1 (fun d S' H' p' => ∀ a, H a = none → H' a ≠ none → ¬ p'.has a → IsS Z H' ⟨p'.α, p'.ω ++ [a], p'.γ⟩ S' → IsTop Z H' ⟨p'.α, p'.ω ++ [a], p'.γ⟩ a d → Q (.ref a) H') → rListOf Z.K vs H1 Q := fun a us es h1 h2 ev q => ⟨a, us, ev, h1, fun l nl => by
      refine q.at_new s1 nl l (back_of e1.t nl) (by rw [upd_same]; exact nofun) (no_has s1 nl) (own_new (hE.ext e1 hS) s1 nl).2 ⟨us, upd_same, ?_⟩
      exact h2.ext (ExtC.plus (ExtE.new nl) nl).s⟩
    unfold dList at q1
    split at q1
    · obtain ⟨v, rfl, hv1⟩ := isDs_one hv
      obtain ⟨a, us, rfl, h1, h2⟩ := isD_lst.mp hv1
      exact key a us _ (.inl h1.sq) h2 rfl q1
    · obtain ⟨v, rfl, hv1⟩ := isDs_one hv
      obtain ⟨a, us, rfl, h1, h2⟩ := isD_tup.mp hv1
      exact key a us _ (.inr h1.sq) h2 rfl q1
    · exact (bad_no (S := S1) q1).elim)
theorem jf_dictOf (hl : JA Z Er O tl ml) : JF Z Er O (tCB rDictOf tl) (xCB dDictOf ml) := fun σ H p ρ S Q hE hS q =>
  hl σ H p ρ S _ hE hS ((q.bnd xE).mono fun ds S1 H1 p1 e1 s1 q1 vs hv => by
    unfold dDictOf at q1
    split at q1
    · obtain ⟨v, rfl, hv1⟩ := isDs_one hv
      obtain ⟨a, us, rfl, h1, hlen, h2⟩ := isD_dic.mp hv1
      refine ⟨a, _, rfl, .inl h1.1, fun l nl => ?_⟩
      refine q1.at_new s1 nl l (back_of e1.t nl) (by rw [upd_same]; exact nofun) (no_has s1 nl) (own_new (hE.ext e1 hS) s1 nl).2 ⟨us, upd_same, hlen, ?_⟩
      exact h2.ext (ExtC.plus (ExtE.new nl) nl).s
    · exact (bad_no (S := S1) q1).elim)
/-- tuple(x), len(x): x a list that is a place -/
def dTupleLo (ds : List Dat) : M Dat := fun S => match ds with
  | [.loc n] => match S[n]? with
    | some (.lst xs) => .ok (.tup xs) S
    | _ => .bad
  | _ => .bad
theorem c_tupleLo : JC Z (IsDs Z) (IsD Z) (fun xs H Q => ∃ p ys, xs = [.ref p] ∧ ((SqL Z.K H p ys ∧ ∀ l, H l = none → Q (.ref l) (L2.upd H l (.tup ys))) ∨ (SqT Z.K H p ys ∧ Q (.ref p) H))) dTupleLo := fun x d Er H p S Q hx s q => by
  unfold dTupleLo at q
  split at q
  · split at q
    · rename_i n _ xs et
      obtain ⟨v, rfl, hv⟩ := isDs_one hx
      obtain ⟨a, rfl, ha⟩ := isD_loc.mp hv
      obtain ⟨vs, h1, h2⟩ := s.at_ n a _ ha et
      refine ⟨a, vs, rfl, .inl ⟨SqL.of h1, fun t nt => ?_⟩⟩
      exact (show Post Z Er ExtE ((pure (Dat.tup xs) : M Dat) S) H p _ from q).at_new s nt _ (new_tup s nt h2)
    · exact q.elim
  · exact q.elim
/-- x.append(e), x a place -/
def isLst (S : List Dat) (n : Nat) : Bool := match S[n]? with
  | some (.lst _) => true
  | _ => false
def needL (n : Nat) : M Unit := fun S => match isLst S n with
  | true => .ok () S
  | false => .bad
def appLo (n : Nat) (d : Dat) (ρ : Env) : M Flow := fun S => match S[n]? with
  | some (.lst xs) => match decide (xs.length < 100000) with
    | true => .ok (.nx ρ) (S.set n (.lst (xs ++ [d])))
    | false => .bad
  | _ => .bad
def sAppLo (o : Env → M Dat) (l : Env → M (List Dat)) (ρ : Env) : M Flow := o ρ >>= fun y => M.opt (dLoc y) >>= fun n => needL n >>= fun _ => l ρ >>= fun ds => M.opt (one ds) >>= fun d => appLo n d ρ
theorem js_appLo (ho : JD Z Er O ta m) (hl : JA Z Er O tl ml) : JS Z Er O (tDrop (tBM Z.K "list" rAppend ta tl)) (sAppLo m ml) := fun σ H p ρ S D hE hS q =>
  ho σ H p ρ S _ hE hS (q.bndE.mono fun o S1 H1 p1 e1 s1 q1 v hv => by
    obtain ⟨n, en, q1⟩ := Post.opt q1
    rw [dLoc_is en] at hv
    obtain ⟨a, rfl, ha⟩ := isD_loc.mp hv
    have hE1 := hE.ext e1 hS
    have nl : ∀ b, isLst S1 n = b → needL n S1 = (match b with | true => .ok () S1 | false => .bad) := fun b e => by unfold needL; rw [e]
    rw [m_bind] at q1
    cases ei : isLst S1 n with
    | false => rw [nl _ ei] at q1; exact q1.elim
    | true =>
      rw [nl _ ei] at q1
      have q2 : Post Z Er Ext ((ml ρ >>= fun ds => M.opt (one ds) >>= fun d => appLo n d ρ) S1) H1 p1 (fun f _ H' p' => FlowOk Z O D f H' p') := q1
      have ty : ∃ vs, H1 a = some (.lst vs) := by
        unfold isLst at ei
        split at ei
        · rename_i xs et
          obtain ⟨vs, h1, _⟩ := s1.at_ n a _ ha et
          exact ⟨vs, h1⟩
        · cases ei
      obtain ⟨vs0, h0⟩ := ty
      refine ⟨.inl ⟨rfl, _, SqL.of h0⟩, hl σ H1 p1 ρ S1 _ hE1 s1 (q2.bndE.mono fun ds S2 H2 p2 e2 s2 q3 ws hws => ?_)⟩
      obtain ⟨d, e1d, q3⟩ := Post.opt q3
      rw [one_is e1d] at hws
      obtain ⟨w, rfl, hw⟩ := isDs_one hws
      have hα : p2.α[n]? = some a := by
        obtain ⟨β, g1, _⟩ := e2.α
        rw [g1, List.getElem?_append_left (List.getElem?_eq_some_iff.mp ha).1]
        exact ha
      unfold appLo at q3
      split at q3
      · rename_i xs et
        cases eb : decide (xs.length < 100000) with
        | false => rw [eb] at q3; exact q3.elim
        | true =>
          rw [eb] at q3
          have c := of_decide_eq_true eb
          obtain ⟨vs, g1, g2⟩ := s2.at_ n a _ hα et
          have sz := sizeLine_eq
          refine ⟨a, vs, w, rfl, rfl, g1, by rw [g2.len]; omega, ?_⟩
          obtain ⟨e3, s3⟩ := loc_put (o := .lst (vs ++ [w])) (d := .lst (xs ++ [d])) s2 hα ⟨vs ++ [w], upd_same, (g2.append (.one hw)).ext (loc_ext (List.mem_of_getElem? hα))⟩
          exact q3 _ _ e3.s s3 σ ((hE1.ext e2 s1).ext e3 s2)
      · exact q3.elim)
/-- d[k] = e, d a place -/
def putLo (n : Nat) (k : Key) (x : Dat) (ρ : Env) : M Flow := fun S => match S[n]? with
  | some (.dic ks ds) => match decide (ks.length < 100000) with
    | true => .ok (.nx ρ) (S.set n (.dic (putKN k ks) (putKV k x ks ds)))
    | false => .bad
  | _ => .bad
def sDPutLo (o b a : Env → M Dat) (ρ : Env) : M Flow := a ρ >>= fun x => o ρ >>= fun y => M.opt (dLoc y) >>= fun n => b ρ >>= fun z => M.opt (keyD z) >>= fun k => putLo n k x ρ
theorem js_dputLo (ho : JD Z Er O ta m1) (hb : JD Z Er O tb m2) (ha : JD Z Er O tc m3) : JS Z Er O (sDPut ta tb tc) (sDPutLo m1 m2 m3) := fun σ H p ρ S D hE hS q =>
  ha σ H p ρ S _ hE hS (q.bndE.mono fun x S1 H1 p1 e1 s1 q1 v hv => ho σ H1 p1 ρ S1 _ (hE.ext e1 hS) s1 (q1.bndE.mono fun o S2 H2 p2 e2 s2 q2 w hw => by
    obtain ⟨n, en, q2⟩ := Post.opt q2
    rw [dLoc_is en] at hw
    refine hb σ H2 p2 ρ S2 _ ((hE.ext e1 hS).ext e2 s1) s2 (q2.bndE.mono fun z S3 H3 p3 e3 s3 q3 u hu => ?_)
    obtain ⟨k, ek, q3⟩ := Post.opt q3
    obtain ⟨a, rfl, hα⟩ := isD_loc.mp (hw.ext e3.s)
    unfold putLo at q3
    split at q3
    · rename_i ks ds et
      cases eb : decide (ks.length < 100000) with
      | false => rw [eb] at q3; exact q3.elim
      | true =>
        rw [eb] at q3
        have c := of_decide_eq_true eb
        obtain ⟨vs, g1, gl, g2⟩ := s3.at_ n a _ hα et
        have sz := sizeLine_eq
        obtain ⟨ws, k1, k2, k3⟩ := putK_rel (k := k) ((hv.ext e2.s).ext e3.s) gl g2
        refine ⟨a, _, rfl, .inl ⟨_, k, g1, keyD_is hu ek, by rw [List.length_zip, ← gl, Nat.min_self]; omega, rfl⟩, ?_⟩
        rw [k1]
        obtain ⟨e4, s4⟩ := loc_put (o := .dK ((putKN k ks).zip ws)) (d := .dic (putKN k ks) (putKV k x ks ds)) s3 hα ⟨ws, upd_same, k2, k3.ext (loc_ext (List.mem_of_getElem? hα))⟩
        exact q3 _ _ e4.s s4 σ ((((hE.ext e1 hS).ext e2 s1).ext e3 s2).ext e4 s3)
    · exact q3.elim))
/-- del d[k] -/
def delLo (n : Nat) (k : Key) (ρ : Env) : M Flow := fun S => match S[n]? with
  | some (.dic ks ds) => match (lkK k ks ds).isSome with
    | true => .ok (.nx ρ) (S.set n (.dic (ks.filter fun g => decide (g ≠ k)) (dropDs k ks ds)))
    | false => .bad
  | _ => .bad
def sDDelLo (o b : Env → M Dat) (ρ : Env) : M Flow := o ρ >>= fun y => M.opt (dLoc y) >>= fun n => b ρ >>= fun z => M.opt (keyD z) >>= fun k => delLo n k ρ
theorem js_ddelLo (ho : JD Z Er O ta m1) (hb : JD Z Er O tb m2) : JS Z Er O (sDDel ta tb) (sDDelLo m1 m2) := fun σ H p ρ S D hE hS q =>
  ho σ H p ρ S _ hE hS (q.bndE.mono fun o S2 H2 p2 e2 s2 q2 w hw => by
    obtain ⟨n, en, q2⟩ := Post.opt q2
    rw [dLoc_is en] at hw
    refine hb σ H2 p2 ρ S2 _ (hE.ext e2 hS) s2 (q2.bndE.mono fun z S3 H3 p3 e3 s3 q3 u hu => ?_)
    obtain ⟨k, ek, q3⟩ := Post.opt q3
    obtain ⟨a, rfl, hα⟩ := isD_loc.mp (hw.ext e3.s)
    unfold delLo at q3
    split at q3
    · rename_i ks ds et
      cases eb : (lkK k ks ds).isSome with
      | false => rw [eb] at q3; exact q3.elim
      | true =>
        rw [eb] at q3
        obtain ⟨vs, g1, gl, g2⟩ := s3.at_ n a _ hα et
        obtain ⟨x, ex⟩ := Option.isSome_iff_exists.mp eb
        obtain ⟨y, g3, _⟩ := lkK_rel g2 ex
        obtain ⟨ws, k1, k2, k3⟩ := dropK_rel (k := k) gl g2
        refine ⟨a, _, k, rfl, g1, keyD_is hu ek, by rw [g3]; rfl, ?_⟩
        rw [k1]
        obtain ⟨e4, s4⟩ := loc_put (o := .dK ((ks.filter fun g => decide (g ≠ k)).zip ws)) (d := .dic (ks.filter fun g => decide (g ≠ k)) (dropDs k ks ds)) s3 hα ⟨ws, upd_same, k2, k3.ext (loc_ext (List.mem_of_getElem? hα))⟩
        exact q3 _ _ e4.s s4 σ (((hE.ext e2 hS).ext e3 s2).ext e4 s3)
    · exact q3.elim)
/-- {k: e for x in xs} -/
def dcD (g : Env → Dat → Option Env) (c : Env → M Bool) (kx e : Env → M Dat) (ρ : Env) : List Dat → List Key → List Dat → M Dat
  | [], ks, es => pure (.dic ks es)
  | d :: ds, ks, es => M.opt (g ρ d) >>= fun ρ1 => c ρ1 >>= fun b => if b = true then kx ρ1 >>= fun y => M.opt (keyD y) >>= fun k => e ρ1 >>= fun x => M.need (decide (ks.length < 100000)) >>= fun _ => dcD g c kx e ρ ds (putKN k ks) (putKV k x ks es) else dcD g c kx e ρ ds ks es
def xDc (it : Env → M (List Dat)) (g : Env → Dat → Option Env) (c : Env → M Bool) (kx e : Env → M Dat) (vs : List Nat) (ρ : Env) : M Dat := it ρ >>= fun ds => dcD g c kx e (wipeE ρ vs) ds [] []
theorem jf_dc {wi : TI} {it : Env → M (List Dat)} {g : TG} {gm : Env → Dat → Option Env} {vs : List Nat} {tk : TE} {mk : Env → M Dat} (hi : JI Z Er O ExtC wi it) (hg : JG Z O g gm (some vs)) (hc : JB Z Er O tt mb) (hk : JD Z Er O tk mk) (he : JD Z Er O te m) : JF Z Er O (tDc wi g tt tk te vs) (xDc it gm mb mk m vs) := fun σ H p ρ S Q hE hS q =>
  hi σ H p ρ S _ hE hS ((q.bnd xE).mono fun ds S1 H1 p1 e1 s1 q2 Jt hJ => by
    have sz := sizeLine_eq
    intro D nD
    have hE1 := hE.ext e1 hS
    have noD : ∀ i ∈ O, σ[i]? ≠ some (some (.ref D)) ∨ ρ[i]? = none ∨ ρ[i]? = some none := fun i oi => by
      cases z : ρ[i]? with
      | none => exact .inr (.inl rfl)
      | some w =>
        cases w with
        | none => exact .inr (.inr rfl)
        | some d =>
          left
          obtain ⟨a, h1, h2, h3⟩ := hE1.own i d oi z
          rw [h1]
          intro c
          cases c
          exact s1.wt D (.inl h2) nD
    refine ⟨fun i n H' => n = ds.length - i ∧ i ≤ ds.length ∧ ∃ α' S' ks acc es, IsE Z O H' ⟨α', p1.ω ++ [D], p1.γ⟩ σ ρ ∧ IsS Z H' ⟨α', p1.ω ++ [D], p1.γ⟩ S' ∧ H' D = some (.dK (ks.zip acc)) ∧ ks.length = acc.length ∧ IsDs Z H' ⟨α', p1.ω ++ [D], p1.γ⟩ acc es ∧ ExtE H1 p1 H' ⟨α', p1.ω, p1.γ⟩ ∧
        Post Z Er ExtE (dcD gm mb mk m (wipeE ρ vs) (ds.drop i) ks es S') H1 p1 (fun d S'' H'' p'' => ∀ a, H a = none → H'' a ≠ none → ¬ p''.has a → IsS Z H'' ⟨p''.α, p''.ω ++ [a], p''.γ⟩ S'' → IsTop Z H'' ⟨p''.α, p''.ω ++ [a], p''.γ⟩ a d → Q (.ref a) H''), ?_, ?_⟩
    · obtain ⟨hE2, hS2⟩ := own_new (o := .dK []) hE1 s1 nD
      exact ⟨_, rfl, Nat.zero_le _, p1.α, S1, [], [], [], hE2, hS2, upd_same, rfl, isDs_nil.mpr rfl, ExtE.new nD, q2⟩
    · rintro i n H' ⟨rfl, le, α', S', ks, acc, es, hE', hS', hD, la, hacc, ex, q'⟩
      have mD : D ∈ p1.ω ++ [D] := List.mem_append_right _ (List.mem_singleton.mpr rfl)
      have exC : ExtC H1 p1 H' ⟨α', p1.ω ++ [D], p1.γ⟩ := ExtC.plus ex nD
      by_cases lt : i < ds.length
      · have W := (hJ H' _ S' i exC hS').1 lt
        refine .inr ⟨W.1, fun H2 => ∃ α' S' ks acc es, IsE Z O H2 ⟨α', p1.ω ++ [D], p1.γ⟩ σ ρ ∧ IsS Z H2 ⟨α', p1.ω ++ [D], p1.γ⟩ S' ∧ H2 D = some (.dK (ks.zip acc)) ∧ ks.length = acc.length ∧ IsDs Z H2 ⟨α', p1.ω ++ [D], p1.γ⟩ acc es ∧ ExtE H1 p1 H2 ⟨α', p1.ω, p1.γ⟩ ∧
            Post Z Er ExtE (dcD gm mb mk m (wipeE ρ vs) (ds.drop (i + 1)) ks es S') H1 p1 (fun d S'' H'' p'' => ∀ a, H a = none → H'' a ≠ none → ¬ p''.has a → IsS Z H'' ⟨p''.α, p''.ω ++ [a], p''.γ⟩ S'' → IsTop Z H'' ⟨p''.α, p''.ω ++ [a], p''.γ⟩ a d → Q (.ref a) H''),
          fun H2 ⟨a, b, c, d, r⟩ => ⟨_, by omega, rfl, lt, a, b, c, d, r⟩, fun x Hx y => ?_⟩
        obtain ⟨sm, d, ed, hd⟩ := W.2 x Hx y
        have ed' : ds[i] = d := by
          rw [List.getElem?_eq_getElem lt] at ed
          exact Option.some.inj ed
        rw [drop_cons lt, ed'] at q'
        have eN : ∀ p, ExtE H' p Hx p := fun p => ExtE.same sm
        obtain ⟨ρ1, e, q3⟩ := q'.opt
        have hEx := hE'.ext (eN _) hS'
        refine hg x _ Hx _ _ d _ (hEx.wipe vs) hd ⟨ρ1, e, fun σ1 hE1' wi => ⟨(wi vs rfl).trans (wipe_wipe σ vs), ?_⟩⟩
        refine hc σ1 Hx _ ρ1 S' _ hE1' (hS'.ext sm) ((q3.bndK.up xE (ex.trans (eN _))).plus.mono fun b S2 H2 p2 e2 s2 q4 c hcb => ?_)
        subst hcb
        have ex2 : ExtE H1 p1 H2 ⟨p2.α, p1.ω, p1.γ⟩ := by
          have z := (ex.trans (eN _))
          refine z.trans ⟨e2.α, rfl, rfl, e2.k, e2.t⟩
        have ep2 : p2 = ⟨p2.α, p1.ω ++ [D], p1.γ⟩ := by
          have h1 := e2.ω
          have h2 := e2.γ
          cases p2
          cases h1
          cases h2
          rfl
        have nDα : D ∉ p2.α := (s2.dj D (by rw [e2.ω]; exact mD)).1
        have eH2 : ExtE H' ⟨α', p1.ω ++ [D], p1.γ⟩ H2 p2 := (eN _).trans e2
        have hE2 : IsE Z O H2 p2 σ ρ := hE'.ext eH2 hS'
        have hD2 : H2 D = some (.dK (ks.zip acc)) := eH2.k D _ hD (hS'.dj D mD).1
        have hacc2 := hacc.ext eH2.s
        cases c with
        | true =>
          show tk σ1 H2 _
          have q5 : Post Z Er ExtE ((mk ρ1 >>= fun y => M.opt (keyD y) >>= fun k => m ρ1 >>= fun x => M.need (decide (ks.length < 100000)) >>= fun _ => dcD gm mb mk m (wipeE ρ vs) (ds.drop (i + 1)) (putKN k ks) (putKV k x ks es)) S2) H1 p1 _ := q4
          have q6 := (q5.bndK.up xE ex2).plus (D := D)
          have e23 : (⟨p2.α, p1.ω ++ [D], p1.γ⟩ : Pl) = p2 := by rw [ep2]
          rw [e23] at q6
          refine hk σ1 H2 p2 ρ1 S2 _ (hE1'.ext e2 (hS'.ext sm)) s2 (q6.mono fun y3 S3 H3 p3 e3 s3 q7 v hv => ?_)
          have ep3 : p3 = ⟨p3.α, p1.ω ++ [D], p1.γ⟩ := by
            have h1 := e3.ω
            have h2 := e3.γ
            rw [ep2] at h1 h2
            cases p3
            cases h1
            cases h2
            rfl
          obtain ⟨k, ek, q7⟩ := Post.opt q7
          have ex3 : ExtE H1 p1 H3 ⟨p3.α, p1.ω, p1.γ⟩ := ex2.trans ⟨e3.α, rfl, rfl, e3.k, e3.t⟩
          have q8 := (q7.bndK.up xE ex3).plus (D := D)
          have e33 : (⟨p3.α, p1.ω ++ [D], p1.γ⟩ : Pl) = p3 := by rw [ep3]
          rw [e33] at q8
          refine he σ1 H3 p3 ρ1 S3 _ ((hE1'.ext e2 (hS'.ext sm)).ext e3 s2) s3 (q8.mono fun x4 S4 H4 p4 e4 s4 q9 w hw => ?_)
          have ep4 : p4 = ⟨p4.α, p1.ω ++ [D], p1.γ⟩ := by
            have h1 := e4.ω
            have h2 := e4.γ
            rw [ep3] at h1 h2
            cases p4
            cases h1
            cases h2
            rfl
          obtain ⟨few, q10⟩ := Post.need q9
          have few := of_decide_eq_true few
          have mD4 : D ∈ p4.ω := by rw [ep4]; exact mD
          have nDα3 : D ∉ p3.α := (s3.dj D (by rw [ep3]; exact mD)).1
          have hD4 : H4 D = some (.dK (ks.zip acc)) := e4.k D _ (e3.k D _ hD2 nDα) nDα3
          have hacc4 := (hacc2.ext e3.s).ext e4.s
          have hE4 := (hE2.ext e3 s2).ext e4 s3
          have noO : ∀ (i : Nat) (d : Dat), i ∈ O → ρ[i]? = some (some d) → σ[i]? ≠ some (some (.ref D)) := fun i d oi z => by
            rcases noD i oi with h | h | h
            · exact h
            · rw [h] at z; cases z
            · rw [h] at z; cases z
          obtain ⟨ws, k1, k2, k3⟩ := putK_rel (k := k) hw la hacc4
          have ePut : Ext H4 p4 (L2.upd H4 D (.dK (putK (ks.zip acc) k w))) p4 := ext_put mD4
          refine ⟨ks.zip acc, k, keyD_is (hv.ext e4.s) ek, hD4, by rw [List.length_zip, ← la, Nat.min_self]; omega, p4.α, S4, putKN k ks, ws, putKV k x4 ks es, ?_, ?_, by rw [upd_same, k1], k2, ?_, ?_, q10⟩
          · rw [← ep4]
            refine ⟨hE4.len, fun j d nj z => ?_, fun j d oj z => ?_, hE4.dj⟩
            · obtain ⟨v, h1, h2⟩ := hE4.get j d nj z
              exact ⟨v, h1, h2.ext ePut⟩
            · obtain ⟨a, h1, h2, h3⟩ := hE4.own j d oj z
              exact ⟨a, h1, h2, h3.ext ePut fun u zz => by rw [upd_ne fun c => noO j d oj z (by rw [← c]; exact h1)]; exact zz⟩
          · rw [← ep4]
            exact s4.put mD4
          · rw [← ep4]
            exact k3.ext ePut
          · have z : ExtE H1 p1 H4 ⟨p4.α, p1.ω, p1.γ⟩ := ex3.trans ⟨e4.α, rfl, rfl, e4.k, e4.t⟩
            exact ⟨z.α, rfl, rfl, fun a o h n => by rw [upd_ne (ne_of_none h nD)]; exact z.k a o h n, fun a n => by rw [upd_ne fun c => n (by rw [c]; exact nD)]; exact z.t a n⟩
        | false =>
          have q5 : Post Z Er ExtE (dcD gm mb mk m (wipeE ρ vs) (ds.drop (i + 1)) ks es S2) H1 p1 _ := q4
          exact ⟨p2.α, S2, ks, acc, es, by rw [← ep2]; exact hE2, by rw [← ep2]; exact s2, hD2, la, by rw [← ep2]; exact hacc2, ex2, q5⟩
      · have e : i = ds.length := by omega
        subst e
        rw [List.drop_length] at q'
        refine .inl ⟨(hJ H' _ S' _ exC hS').2 rfl, ?_⟩
        have hS3 := hS'.less (ω := p1.ω) fun a h => List.mem_append_left _ h
        have nh : ¬ (⟨α', p1.ω, p1.γ⟩ : Pl).has D := by
          rintro (h | h | h)
          · exact (hS'.dj D mD).1 h
          · exact s1.wt D (.inl h) nD
          · exact s1.wt D (.inr h) nD
        exact q' H' _ ex hS3 D (back_of e1.t nD) (by rw [hD]; exact nofun) nh hS' ⟨acc, hD, la, hacc⟩)
end
end Zd

namespace Zd
open PySem PySem.Spec PyProof.Rows L2
/-! ### a call of what a slot holds -/
def tCallR (i : Nat) (R : Addr → Sp → Prop) (t : TA) : TE := fun σ H Q => ∃ f sp, σ[i]? = some (some (.ref f)) ∧ R f sp ∧ t σ H fun vs H1 => sp vs H1 Q (fun _ _ _ => False)
section
variable {X : Cx} {k i : Nat} {x : Str} {p pos : Pos} {e : Expr} {es : List Expr} {t : TA}
theorem pe_callR {R : Addr → Sp → Prop} (A : ∀ f sp, R f sp → Held X.prog X.w X.K X.mg X.base k f sp) (hr : Room k X.A) (hN : X.N[i]? = some x) (hv : Vis X.env.scope x) (ha : PA X (e :: es) t)
    (hdb : (x == ("__debug__" : Str)) = false := by decide) (hcd : (x == ("__classdict__" : Str)) = false := by decide)
    (he : starEach (e :: es) X.env = (false, eval e X.env) :: starEach es X.env := by rfl) (hpl : (backTo pos (starEach es X.env)).any (·.1) = false := by rfl) : PE X (.Call (.Name x p) (e :: es) [] pos) (tCallR i R t) := by
  refine ⟨fun pins s σ H Q I h => ?_⟩
  obtain ⟨f, sp, hs, hS, ht⟩ := h
  obtain ⟨fd, ps, F, hk, hb⟩ := (A f sp hS).ex
  refine (pe_callL (i := i) (f := f) (sp := sp) (dvs := []) (E := fun _ _ _ => False) F hr hN hv hk hb .nil (fun _ _ _ _ _ _ _ z => z.elim) ha hdb hcd he hpl).run pins s σ H Q I ⟨hs, ?_⟩
  have e0 : (fun (vs : List V) (H1 : Hp) => sp (vs ++ []) H1 Q (fun _ _ _ => False)) = fun vs H1 => sp vs H1 Q (fun _ _ _ => False) := by
    funext vs H1
    rw [List.append_nil]
  show t σ H (fun vs H1 => sp (vs ++ []) H1 Q (fun _ _ _ => False))
  rw [e0]
  exact ht
end
def lkF (c : String) : List (String × (List Dat → M Dat)) → Option (List Dat → M Dat)
  | [] => none
  | (k, F) :: r => if k = c then some F else lkF c r
def RT (Z : Cz) (n : Nat) (T : List (String × (List Dat → M Dat))) (f : Addr) (sp : Sp) : Prop := ∃ c F, lkF c T = some F ∧ f = Z.κ c ∧ sp = spD Z n F
def clsAt (ρ : Env) (i : Nat) : Option String := match ρ[i]? with
  | some (some (.cls c)) => some c
  | _ => none
def xCallT (T : List (String × (List Dat → M Dat))) (i : Nat) (l : Env → M (List Dat)) (ρ : Env) : M Dat := M.opt (clsAt ρ i) >>= fun c => M.opt (lkF c T) >>= fun F => l ρ >>= fun ds => calm (F ds)
section
variable {Z : Cz} {Er : ErW} {O : List Nat} {te ta tb tc : TE} {ts : TS} {tl tk : TA} {tt : TT} {m m1 m2 m3 : Env → M Dat} {mb : Env → M Bool} {ml mk : Env → M (List Dat)} {ms : Env → M Flow}
theorem j_callT {T : List (String × (List Dat → M Dat))} {n i : Nat} (ni : i ∉ O) (hl : JA Z Er O tl ml) (hn : ∀ ρ S ds S', ml ρ S = .ok ds S' → ds.length = n) : JD Z Er O (tCallR i (RT Z n T) tl) (xCallT T i ml) := fun σ H p ρ S Q hE hS q => by
  obtain ⟨c, ec, q⟩ := Post.opt q
  obtain ⟨F, eF, q⟩ := Post.opt q
  have eρ : ρ[i]? = some (some (.cls c)) := by
    unfold clsAt at ec
    split at ec
    · rename_i e; cases ec; exact e
    · cases ec
  obtain ⟨v, h1, h2⟩ := hE.get i _ ni eρ
  have hv : v = .ref (Z.κ c) := by unfold IsD at h2; exact h2
  subst hv
  refine ⟨_, _, h1, ⟨c, F, eF, rfl, rfl⟩, ?_⟩
  refine hl σ H p ρ S _ hE hS ?_
  have q2 := q.bnd xE
  unfold Post at q2 ⊢
  cases z : ml ρ S with
  | ok ds S1 =>
    rw [z] at q2
    intro H1 p1 e1 s1 vs hv
    exact call_sp (hv.len.trans (hn ρ S ds S1 z)) hv s1 (q2 H1 p1 e1 s1)
  | er c fs S1 => rw [z] at q2; exact q2
  | bad => rw [z] at q2; exact q2
/-- d[k], d a dict of the module that holds defs -/
def kds (t : List (Str × String)) (z : Str) : Option String := match t with
  | [] => none
  | (k, c) :: r => if k == z then some c else kds r z
structure FDict (Z : Cz) (w : World) (mg : Str → Option Value) (x : Str) (a : Addr) (t : List (Str × String)) : Prop where
  g : mg x = some (.ref a)
  at_ : ∀ z c, kds t z = some c → KDct Z.K w a z (.ref (Z.κ c))
def xKIx (t : List (Str × String)) (m : Env → M Dat) (ρ : Env) : M Dat := m ρ >>= fun y => M.opt (sT y) >>= fun z => M.opt (kds t z) >>= fun c => pure (.cls c)
def tIxG (rd : L2.R2) (a : Addr) (ty : TE) : TE := fun σ H Q => ty σ H fun y H1 => rd (.ref a) y H1 Q
theorem j_kix {w : World} {mg : Str → Option Value} {x : Str} {a : Addr} {t : List (Str × String)} (T : FDict Z w mg x a t) (h : JD Z Er O ta m) : JD Z Er O (fun σ H Q => (fun (σ : L2.St) (H : Hp) (Q : VK) => Q (.ref a) H) σ H fun x H1 => ta σ H1 fun y H2 => rIxD Z.K w x y H2 Q) (xKIx t m) := fun σ H p ρ S Q hE hS q =>
  h σ H p ρ S _ hE hS ((q.bnd xE).mono fun d S1 H1 p1 e1 s1 q1 v hv => by
    obtain ⟨z, ez, q1⟩ := Post.opt q1
    obtain ⟨c, ec, q1⟩ := Post.opt q1
    rw [sT_is ez] at hv
    exact ⟨a, z, .ref (Z.κ c), rfl, isD_str.mp hv, T.at_ z c ec, q1.pure xE s1 _ (by unfold IsD; rfl)⟩)
/-! ### more operators -/
def dS0 (f : Str → Str → Bool) (d e : Dat) : M Dat := match d, e with
  | .str x, .str y => pure (.bl (f x y))
  | _, _ => M.no
def repD : Nat → List Dat → List Dat
  | 0, _ => []
  | n + 1, ds => ds ++ repD n ds
theorem rep_is {H : Hp} {p : Pl} {vs : List V} {ds : List Dat} (h : IsDs Z H p vs ds) : ∀ n, IsDs Z H p (List.replicate n vs).flatten (repD n ds)
  | 0 => isDs_nil.mpr rfl
  | n + 1 => by rw [List.replicate_succ, List.flatten_cons]; exact h.append (rep_is h n)
def dRepT (d e : Dat) : M Dat := match d, e with
  | .tup ds, .int k => M.need (!ds.isEmpty && decide (2 ≤ k) && decide (k ≤ 1000) && decide (ds.length ≤ 1000)) >>= fun _ => pure (.tup (repD k.toNat ds))
  | _, _ => M.no
theorem r_repT : JRD Z (rRepT Z.K) dRepT := fun x y d e Er H p S Q hx hy s q => by
  unfold dRepT at q
  split at q
  · rename_i ds k
    obtain ⟨c, q⟩ := q.need
    simp only [Bool.and_eq_true, decide_eq_true_eq, Bool.not_eq_true'] at c
    obtain ⟨a, vs, rfl, h1, h2⟩ := isD_tup.mp hx
    refine ⟨a, k, vs, rfl, isD_int.mp hy, h1.sq, fun z => ?_, c.1.1.2, c.1.2, by rw [h2.len]; exact c.2, fun t nt => q.at_new s nt _ (new_tup s nt (rep_is h2 k.toNat))⟩
    have := h2.len
    rw [z] at this
    cases ds with
    | nil => cases c.1.1.1
    | cons a r => cases this
  · exact (bad_no (S := S) q).elim
def dIsB (neg : Bool) (d e : Dat) : M Dat := match d, e with
  | .bl a, .bl b => pure (.bl (neg != decide (a = b)))
  | _, _ => M.no
theorem r_isB : JRD Z (fun x y H Q => ∃ a b, x = .bl a ∧ y = .bl b ∧ Q (.bl (decide (a = b))) H) (dIsB false) := fun x y d e Er H p S Q hx hy s q => by
  unfold dIsB at q
  split at q
  · rw [Bool.false_bne] at q
    exact ⟨_, _, isD_bl.mp hx, isD_bl.mp hy, q.pure xE s _ (isD_bl.mpr rfl)⟩
  · exact (bad_no (S := S) q).elim
/-- x in y, y an instance of the class -/
def rInI (C : Addr) (sp : Sp) (E : XK) (g : Bool → Bool) : R2 := fun x y H Q => ∃ b dy gs, y = .ref b ∧ H b = some (.ins C dy gs) ∧ sp [y, x] H (fun z H' => ∃ c, z = .bl c ∧ Q (.bl (g c)) H') E
def dInI (c : String) (neg : Bool) (G : List Dat → M Dat) (d e : Dat) : M Dat := fun S => match insD S e with
  | some (c1, _) => match decide (c1 = c) with
    | true => (calm (G [e, d]) >>= fun z => M.opt (dB z) >>= fun b => pure (.bl (neg != b))) S
    | false => .bad
  | none => .bad
theorem r_inI {c : String} {neg : Bool} {F G : List Dat → M Dat} {E : XK} (V : Via Z 2 F G) : JRD Z (rInI (Z.κ c) (spD Z 2 F) E (neg != ·)) (dInI c neg G) := fun x y d e Er H p S Q hx hy s q => by
  unfold dInI at q
  cases e2 : insD S e with
  | none => simp only [e2] at q; exact q.elim
  | some o2 =>
    obtain ⟨c2, f2⟩ := o2
    simp only [e2] at q
    cases eb : decide (c2 = c) with
    | false => rw [eb] at q; exact q.elim
    | true =>
      rw [eb] at q
      have ec := of_decide_eq_true eb
      subst ec
      obtain ⟨b, dy, ws, rfl, hb⟩ := ins_is s hy e2
      refine ⟨b, dy, _, rfl, hb, V Er H p S _ [e, d] _ E rfl (isDs_cons.mpr ⟨_, _, rfl, hy, .one hx⟩) s ?_⟩
      have q2 := q.bnd xE
      refine q2.mono fun z S1 H1 p1 e1 s1 q3 v hv => ?_
      obtain ⟨b, eb, k⟩ := Post.opt q3
      rw [dB_some eb] at hv
      exact ⟨b, isD_bl.mp hv, k.pure xE s1 _ (isD_bl.mpr rfl)⟩
end
section
variable {X : Cx} {CX : CXT} {pins : List (Addr × Obj)} {σ : L2.St} {H : Hp} {s : Shared} {C g f : Addr} {fd : FuncData} {ps ks : List Str} {k : Nat} {sp : Sp} {E : XK} {x : Str} {p pos : Pos} {e : Expr} {es : List Expr} {kws : List Keyword} {t tk : TA}
theorem run_in {A : Around} {Q : VK} {us : List Value} {ws : List V} (F : FnOk X.prog X.w X.K X.mg X.base CX k g fd ps sp) (hr : Room k A) (hb : Binds X.K fd ps []) (e0 : Env0 X.prog X.w X.K X.mg X.base A X.stack s H)
    (hx : Passes CX X E) (I : Inv X pins σ H s) (r : Vals ws us) (h : sp ws H Q E) : wpAny (model X.prog X.w) A (call (.ref g) us) (EP X pins σ Q) X.xe s := by
  have hl : (us ++ []).length = ps.length := by rw [List.append_nil, ← r.length]; exact F.len _ _ _ _ h
  have b := hb s us I.kIn hl
  rw [List.append_nil] at b
  refine wpAny_call (codeAny_mono (F.run A X.stack s H ⟨us, []⟩ us ws Q E hr e0 b r h) fun r s' hq => ?_)
  match r, hq with
  | .error e, z => exact hx pins σ H s e s' I z
  | .ok (.ret _), z => exact I.after z
  | .ok .next, z => exact z.elim
  | .ok .brk, z => exact z.elim
  | .ok .cont, z => exact z.elim
theorem op_cmpI {op : CmpOp} (hop : ∀ a b, compareOp op a b = richCompare op a b) (hs : PySem.W.findIn X.K (.ref C) (cmpInfo op).2.1 = some (some (.ref g))) (hf : PySem.W.isFn X.K (.ref g) = true)
    (F : FnOk X.prog X.w X.K X.mg X.base CX k g fd ps sp) (hr : Room k X.A) (hb : Binds X.K fd ps []) (hx : Passes CX X E) : OpR X (compareOp op) (rOwnI C sp E) := by
  intro pins s σ H x y v u Q I rx ry h
  obtain ⟨a, dx, fs, b, dy, gs, rfl, rfl, ha, hb', q⟩ := h
  cases (show v = Value.ref a from rx)
  cases (show u = Value.ref b from ry)
  obtain ⟨mA, O, _⟩ := ins_get I.hok ha
  obtain ⟨od, J, _⟩ := O.look
  obtain ⟨mB, O', _⟩ := ins_get I.hok hb'
  obtain ⟨od', J', _⟩ := O'.look
  obtain ⟨m, hF⟩ := I.fr
  rw [hop]
  refine PySem.W.cmp_K (op := op) (tb := .ref C) hr.units0 hF I.ok.mod.kin J J'.type (by simp [PySem.W.notFirst]) hs hf ?_
  refine wpAny_mono (run_in (us := [.ref a, .ref b]) (ws := [.ref a, .ref b]) F hr hb I.env0 hx I (.cons rfl (.cons rfl .nil)) q) (fun w s' z => ?_) fun _ _ x => x
  obtain ⟨z', H', I', rz, qz⟩ := z
  exact SlX.cmpback rz ⟨z', H', I', rz, qz⟩
theorem op_inI {E : XK} (hs : PySem.W.findIn X.K (.ref C) "__contains__" = some (some (.ref f))) (hf : PySem.W.isFn X.K (.ref f) = true)
    (F : FnOk X.prog X.w X.K X.mg X.base CX k f fd ps sp) (hr : Room k X.A) (hb : Binds X.K fd ps []) (hx : Passes CX X E) : OpR X (compareOp .In) (rInI C sp E (false != ·)) := by
  intro pins s σ H x y v u Q I rx ry h
  obtain ⟨b, dy, gs, rfl, hb', q⟩ := h
  cases (show u = Value.ref b from ry)
  obtain ⟨mB, O, _⟩ := ins_get I.hok hb'
  obtain ⟨od, J, _⟩ := O.look
  obtain ⟨m, hF⟩ := I.fr
  refine PySem.W.in_K hF I.ok.mod.kin J hs hf ?_
  refine wpAny_mono (run_in (us := [.ref b, v]) (ws := [.ref b, x]) F hr hb I.env0 hx I (.cons rfl (.cons rx .nil)) q) (fun w s' z => ?_) fun _ _ x => x
  obtain ⟨z', H', I', rz, c, ec, qz⟩ := z
  subst ec
  dsimp only at qz
  rw [Bool.false_bne] at qz
  cases (show w = Value.bool c from rz)
  exact wpAny_truthy_bool ⟨.bl c, H', I', rfl, qz⟩
theorem op_notInI {E : XK} (hs : PySem.W.findIn X.K (.ref C) "__contains__" = some (some (.ref f))) (hf : PySem.W.isFn X.K (.ref f) = true)
    (F : FnOk X.prog X.w X.K X.mg X.base CX k f fd ps sp) (hr : Room k X.A) (hb : Binds X.K fd ps []) (hx : Passes CX X E) : OpR X (compareOp .NotIn) (rInI C sp E (true != ·)) := by
  intro pins s σ H x y v u Q I rx ry h
  obtain ⟨b, dy, gs, rfl, hb', q⟩ := h
  cases (show u = Value.ref b from ry)
  obtain ⟨mB, O, _⟩ := ins_get I.hok hb'
  obtain ⟨od, J, _⟩ := O.look
  obtain ⟨m, hF⟩ := I.fr
  refine PySem.W.notIn_K hF I.ok.mod.kin J hs hf ?_
  refine wpAny_mono (run_in (us := [.ref b, v]) (ws := [.ref b, x]) F hr hb I.env0 hx I (.cons rfl (.cons rx .nil)) q) (fun w s' z => ?_) fun _ _ x => x
  obtain ⟨z', H', I', rz, c, ec, qz⟩ := z
  subst ec
  dsimp only at qz
  rw [Bool.true_bne] at qz
  cases (show w = Value.bool c from rz)
  exact wpAny_truthy_bool ⟨.bl (!c), H', I', rfl, qz⟩
/-! ### keywords -/
/-- the positional ones and the keywords' values in the parameters' order -/
def pick {α : Type} (n : Nat) (π : List Nat) (us ws : List α) : List α := if us.length = n ∧ n + ws.length = π.length then π.filterMap fun i => (us ++ ws)[i]? else []
theorem vals_get : ∀ {vs : List V} {us : List Value} (i : Nat), Vals vs us → (∃ v u, vs[i]? = some v ∧ us[i]? = some u ∧ RelV v u) ∨ (vs[i]? = none ∧ us[i]? = none) := fun {vs us} i h => by
  induction h generalizing i with
  | nil => exact .inr ⟨by simp, by simp⟩
  | cons a b ih =>
    cases i with
    | zero => exact .inl ⟨_, _, rfl, rfl, a⟩
    | succ i => simpa using ih i
theorem vals_pick {π : List Nat} {vs : List V} {us : List Value} (h : Vals vs us) : Vals (π.filterMap fun i => vs[i]?) (π.filterMap fun i => us[i]?) := by
  induction π with
  | nil => exact .nil
  | cons i r ih =>
    rcases vals_get i h with ⟨v, u, e1, e2, rv⟩ | ⟨e1, e2⟩
    · rw [List.filterMap_cons, List.filterMap_cons, e1, e2]
      exact .cons rv ih
    · rw [List.filterMap_cons, List.filterMap_cons, e1, e2]
      exact ih
theorem vals_app : ∀ {vs zs : List V} {us ws : List Value}, Vals vs us → Vals zs ws → Vals (vs ++ zs) (us ++ ws) := fun {vs zs us ws} h k => by
  induction h with
  | nil => exact k
  | cons a b ih => exact .cons a ih
theorem Fun_kbinds {K : PySem.W.Frag} {x qual : Str} {st : Stmt} {f : Addr} {fd : FuncData} (F : Fun K x qual st f fd) {ps ks : List Str} {n : Nat} {π : List Nat} (h0 : 0 < ps.length)
    (h : ∀ (kV doc pm : Value) (an : Option Addr) (cdv ct : Value) (us ws : List Value), us.length = n → n + ws.length = π.length → bindArgs (PySem.W.fnOf x qual (defArgs st) (defBody st) (defScope st) .none kV doc pm an cdv ct) ⟨us, ks.zip ws⟩ = pure (ps.zip (pick n π us ws))) : KBinds K fd ps ks (pick n π) (pick n π) := by
  obtain ⟨oc, od, kV, doc, pm, an, cdv, ct, osl, rfl, lk, hcd⟩ := F.ex
  refine ⟨fun s us ws _ hl => BindsTo.of_eq ?_, fun {vs us zs ws} hv hz => ?_⟩
  · by_cases c : us.length = n ∧ n + ws.length = π.length
    · exact h kV doc pm an cdv ct us ws c.1 c.2
    · unfold pick at hl
      rw [if_neg c] at hl
      rw [← hl] at h0
      cases h0
  · unfold pick
    rw [hv.length, hz.length]
    by_cases c : us.length = n ∧ n + ws.length = π.length
    · rw [if_pos c, if_pos c]
      exact vals_pick (vals_app hv hz)
    · rw [if_neg c, if_neg c]
      exact .nil
theorem pe_callK0 {gv : List Value → List Value → List Value} {gV : List V → List V → List V} (F : FnOk X.prog X.w X.K X.mg X.base CX k f fd ps sp) (hr : Room k X.A) (hg : Gl X x) (hm : X.mg x = some (.ref f)) (hk : PySem.W.keepIn X.K (.ref f) = true) (hb : KBinds X.K fd ps ks gv gV) (hx : Passes CX X E)
    (hkw : PK X kws tk) (hall : (backToKw pos (keywordEach kws X.env)).all (·.1.isSome) = true := by rfl) (hks : (backToKw pos (keywordEach kws X.env)).filterMap (·.1) = ks := by rfl)
    (hdb : (x == ("__debug__" : Str)) = false := by decide)
    (hpl : ((backTo pos (starEach [] X.env)).any (·.1) || (backToKw pos (keywordEach kws X.env)).any (·.1.isNone)) = false := by rfl) :
    PE X (.Call (.Name x p) [] kws pos) (tCallK sp gV E tNil tk) := by
  refine ⟨fun pins s σ H Q I h => ?_⟩
  refine wpAny_Call_Name_kw (ld_glob I hg hm ?_ hdb)
  refine PySem.W.callWith_KW0 (h₀ := X.base) I.ok.mod.kin hk hall (thn (hkw.run pos pins s σ H _ I h) fun ws s2 ⟨zs, H2, I2, rz, q2⟩ => ⟨I2.kIn, ?_⟩) hpl
  rw [hks]
  exact run_fnk (us := []) (vs := []) F hr hb hx I2 .nil rz q2
end
section
variable {Z : Cz} {Er : ErW} {O : List Nat} {tl tk : TA} {ml mk : Env → M (List Dat)}
theorem IsDs.pick {H : Hp} {p : Pl} {n : Nat} {π : List Nat} {vs ws : List V} {ds es : List Dat} (h : IsDs Z H p vs ds) (k : IsDs Z H p ws es) : IsDs Z H p (pick n π vs ws) (pick n π ds es) := by
  unfold Zd.pick
  rw [h.len, k.len]
  by_cases c : ds.length = n ∧ n + es.length = π.length
  · rw [if_pos c, if_pos c]
    have ha := h.append k
    generalize vs ++ ws = us at ha
    generalize ds ++ es = fs at ha
    have hl := ha.len
    clear c
    induction π with
    | nil => exact isDs_nil.mpr rfl
    | cons i r ih =>
      rw [List.filterMap_cons, List.filterMap_cons]
      cases e : fs[i]? with
      | none =>
        have : us[i]? = none := by
          rw [List.getElem?_eq_none_iff] at e ⊢
          omega
        rw [this]
        exact ih
      | some d =>
        obtain ⟨v, e1, e2⟩ := ha.get e
        rw [e1]
        exact isDs_cons.mpr ⟨v, _, rfl, e2, ih⟩
  · rw [if_neg c, if_neg c]
    exact isDs_nil.mpr rfl
def xCallK (n : Nat) (π : List Nat) (N : Nat) (G : List Dat → M Dat) (l k : Env → M (List Dat)) (ρ : Env) : M Dat := l ρ >>= fun ds => k ρ >>= fun es => M.need (decide ((pick n π ds es).length = N)) >>= fun _ => calm (G (pick n π ds es))
theorem j_callK {F G : List Dat → M Dat} {n N : Nat} {π : List Nat} {E : XK} (V : Via Z N F G) (hl : JA Z Er O tl ml) (hk : JA Z Er O tk mk) : JD Z Er O (tCallK (spD Z N F) (pick n π) E tl tk) (xCallK n π N G ml mk) := fun σ H p ρ S Q hE hS q =>
  hl σ H p ρ S _ hE hS ((q.bnd xE).mono fun ds S1 H1 p1 e1 s1 q1 vs hv => hk σ H1 p1 ρ S1 _ (hE.ext e1 hS) s1 ((q1.bnd xE).mono fun es S2 H2 p2 e2 s2 q2 ws hw => by
    obtain ⟨c, q3⟩ := Post.need q2
    have c := of_decide_eq_true c
    have hd := IsDs.pick (n := n) (π := π) (hv.ext e2.s) hw
    exact V Er H2 p2 S2 _ _ Q E (hd.len.trans c) hd s2 q3))
end
end Zd

namespace Zd
open PySem PySem.Spec PyProof.Rows L2 Zg
/-! ### what callers are told of methods, classes, calls with keywords -/
def MeI (P : Program) (w : World) (K : PySem.W.Frag) (mg : Str → Option Value) (base : Heap) (Z : Cz) (k : Nat) (c : String) (m : Str) (ps : List Str) (sp : Sp) : Prop :=
  ∃ (f : Addr) (fd : FuncData), Meth K (Z.κ c) m f ∧ FnOk P w K mg base CX0 k f fd ps sp ∧ Binds K fd ps []
def MkI (P : Program) (w : World) (K : PySem.W.Frag) (mg : Str → Option Value) (base : Heap) (Z : Cz) (k : Nat) (c : String) (x : Str) (ps : List Str) (sp : Sp) : Prop :=
  ∃ (f : Addr) (fd : FuncData), Mk K (Z.κ c) f ∧ FnOk P w K mg base CX0 k f fd ps sp ∧ Binds K fd ps [] ∧ mg x = some (.ref (Z.κ c))
def CalKw (P : Program) (w : World) (K : PySem.W.Frag) (mg : Str → Option Value) (base : Heap) (k : Nat) (x : Str) (ps ks : List Str) (n : Nat) (π : List Nat) (sp : Sp) : Prop :=
  ∃ (f : Addr) (fd : FuncData), FnOk P w K mg base CX0 k f fd ps sp ∧ KBinds K fd ps ks (pick n π) (pick n π) ∧ mg x = some (.ref f) ∧ PySem.W.keepIn K (.ref f) = true
/-- a class: its fields, its name -/
structure ClsI (K : PySem.W.Frag) (mg : Str → Option Value) (Z : Cz) (c : String) (x : Str) (fs : List Str) : Prop where
  t : ClsT Z c fs
  i : InsT Z c
  g : mg x = some (.ref (Z.κ c))
structure TxD2 (mg : Str → Option Value) : Prop extends TxD mg where
  n_dict : mg "dict" = none
def CalI (P : Program) (w : World) (K : PySem.W.Frag) (mg : Str → Option Value) (base : Heap) (C : Addr) (x : Str) (ps : List Str) : Prop :=
  ∃ (f : Addr) (fd : FuncData), PySem.W.findIn K (.ref C) "__init__" = some (some (.ref f)) ∧ PySem.W.typeIn K (.ref f) = some (.type "function") ∧ FnOk P w K mg base CX0 1 f fd ps (spIni C x) ∧ Binds K fd ps []
section
variable {Z : Cz} {Er : ErW} {O : List Nat}
theorem j_cls {c : String} : JD Z Er O (tC (.ref (Z.κ c))) (xC (.cls c)) := j_c fun _ _ => by unfold IsD; rfl
end
end Zd

namespace Zd
open PySem PySem.Spec PyProof.Rows L2 Zg
/-! ### for a law's end -/
section
variable {P : Program} {w : World} {K : PySem.W.Frag} {mg : Str → Option Value} {base : Heap} {Z : Cz} {k n : Nat}
theorem held_nil : ∀ f sp, RT Z n [] f sp → Held P w K mg base k f sp := fun f sp ⟨c, F, e, _⟩ => by cases e
theorem held_cons {c : String} {L : List Dat → M Dat} {T : List (String × (List Dat → M Dat))} {j : Nat} {fd : FuncData} {ps : List Str} (F : FnOk P w K mg base CX0 j (Z.κ c) fd ps (spD Z n L)) (h : j ≤ k) (hk : PySem.W.keepIn K (.ref (Z.κ c)) = true) (hb : Binds K fd ps [])
    (hr : ∀ f sp, RT Z n T f sp → Held P w K mg base k f sp) : ∀ f sp, RT Z n ((c, L) :: T) f sp → Held P w K mg base k f sp := fun f sp ⟨d, G, e, ef, es⟩ => by
  unfold lkF at e
  by_cases q : c = d
  · rw [if_pos q] at e
    cases e
    subst q ef es
    exact ⟨fd, ps, F.mono h, hk, hb⟩
  · rw [if_neg q] at e
    exact hr f sp ⟨d, G, e, ef, es⟩
theorem kdW_of {a : Addr} {keys : List Str} {z : Str} {f : Addr} (h1 : He.dicW K a = some (He.keysIn w.params keys)) (h2 : PySem.W.nsIn K a z = some (some (.ref f))) : KDct K w a z (.ref f) := by
  obtain ⟨es, n, kd⟩ := He.dicW_ok h1
  exact ⟨es, n, .ref f, kd.at_, kd.lit, h2, rfl⟩
theorem kds_nil {Q : Str → String → Prop} : ∀ z c, kds [] z = some c → Q z c := fun z c e => by cases e
theorem kds_cons {Q : Str → String → Prop} {k : Str} {d : String} {t : List (Str × String)} (h : Q k d) (hr : ∀ z c, kds t z = some c → Q z c) : ∀ z c, kds ((k, d) :: t) z = some c → Q z c := fun z c e => by
  unfold kds at e
  by_cases q : (k == z) = true
  · rw [if_pos q] at e
    cases e
    rw [← eq_of_beq q]
    exact h
  · rw [if_neg q] at e
    exact hr z c e
end
end Zd

namespace Zd
open PySem PySem.Spec PyProof.Rows L2 Zg
/-! ### sorted of texts -/
def leS (a b : Str) : Prop := ¬ b.cps.toList < a.cps.toList
theorem leS_total (a b : Str) : leS a b ∨ leS b a := by
  unfold leS
  by_cases h : b.cps.toList < a.cps.toList
  · exact .inr fun k => List.lt_asymm h k
  · exact .inl h
theorem leS_trans {a b c : Str} (h : leS a b) (k : leS b c) : leS a c := by
  unfold leS at *
  have h : a.cps.toList ≤ b.cps.toList := h
  have k : b.cps.toList ≤ c.cps.toList := k
  exact List.le_trans h k
theorem leS_anti {a b : Str} (h : leS a b) (k : leS b a) : a = b := by
  unfold leS at *
  have h : a.cps.toList ≤ b.cps.toList := h
  have k : b.cps.toList ≤ a.cps.toList := k
  have e : a.cps.toList = b.cps.toList := List.le_antisymm h k
  cases a
  cases b
  simp at e
  rw [e]
def insS (x : Str) : List Str → List Str
  | [] => [x]
  | y :: r => if ltCps y.cps.toList x.cps.toList = true then y :: insS x r else x :: y :: r
def sortS : List Str → List Str
  | [] => []
  | x :: r => insS x (sortS r)
theorem insS_perm (x : Str) : ∀ l, (insS x l).Perm (x :: l)
  | [] => List.Perm.refl _
  | y :: r => by
    unfold insS
    split
    · exact ((insS_perm x r).cons y).trans (List.Perm.swap x y r)
    · exact List.Perm.refl _
theorem sortS_perm : ∀ l, (sortS l).Perm l
  | [] => List.Perm.refl _
  | x :: r => (insS_perm x (sortS r)).trans ((sortS_perm r).cons x)
theorem insS_sorted (x : Str) : ∀ l, l.Pairwise leS → (insS x l).Pairwise leS
  | [], _ => List.pairwise_singleton _ _
  | y :: r, h => by
    have hc := List.pairwise_cons.mp h
    unfold insS
    split
    · rename_i c
      rw [ltCps_eq, decide_eq_true_eq] at c
      refine List.pairwise_cons.mpr ⟨fun z m => ?_, insS_sorted x r hc.2⟩
      rcases List.mem_cons.mp ((insS_perm x r).mem_iff.mp m) with rfl | m
      · exact fun k => List.lt_asymm c k
      · exact hc.1 z m
    · rename_i c
      rw [ltCps_eq, decide_eq_true_eq] at c
      refine List.pairwise_cons.mpr ⟨fun z m => ?_, h⟩
      rcases List.mem_cons.mp m with rfl | m
      · exact c
      · exact leS_trans c (hc.1 z m)
theorem sortS_sorted : ∀ l, (sortS l).Pairwise leS
  | [] => List.Pairwise.nil
  | x :: r => insS_sorted x _ (sortS_sorted r)
theorem perm_eq : ∀ {l m : List Str}, l.Perm m → l.Pairwise leS → m.Pairwise leS → l = m
  | [], m, p, _, _ => (List.nil_perm.mp p).symm
  | a :: l, [], p, _, _ => absurd p.length_eq (by simp)
  | a :: l, b :: m, p, h, k => by
    have ha := List.pairwise_cons.mp h
    have hb := List.pairwise_cons.mp k
    have e : a = b := by
      have m1 : a ∈ b :: m := p.mem_iff.mp List.mem_cons_self
      have m2 : b ∈ a :: l := p.mem_iff.mpr List.mem_cons_self
      rcases List.mem_cons.mp m1 with e | m1
      · exact e
      · rcases List.mem_cons.mp m2 with e | m2
        · exact e.symm
        · exact leS_anti (ha.1 b m2) (hb.1 a m1)
    subst e
    rw [perm_eq (List.Perm.cons_inv p) ha.2 hb.2]
theorem rising_pw : ∀ (p : Str) (l : List Str), risingS p l = true → (p :: l).Pairwise leS
  | p, [], _ => List.pairwise_singleton _ _
  | p, x :: r, h => by
    have h : (!ltCps x.cps.toList p.cps.toList && risingS x r) = true := h
    rw [Bool.and_eq_true, Bool.not_eq_true'] at h
    have ih := rising_pw x r h.2
    have hc := List.pairwise_cons.mp ih
    have px : leS p x := by
      have := h.1
      rw [ltCps_eq, decide_eq_false_iff_not] at this
      exact this
    refine List.pairwise_cons.mpr ⟨fun z m => ?_, ih⟩
    rcases List.mem_cons.mp m with rfl | m
    · exact px
    · exact leS_trans px (hc.1 z m)
theorem sortedS_pw : ∀ {l : List Str}, sortedS l = true → l.Pairwise leS
  | [], _ => List.Pairwise.nil
  | x :: r, h => rising_pw x r h
theorem sortS_is {ys xs : List Str} (p : ys.Perm xs) (h : sortedS ys = true) : ys = sortS xs := perm_eq (p.trans (sortS_perm xs).symm) (sortedS_pw h) (sortS_sorted xs)
def strsL : List Dat → Option (List Str)
  | [] => some []
  | .str x :: r => (strsL r).map (x :: ·)
  | _ :: _ => none
theorem strsL_is : ∀ {ds : List Dat} {xs : List Str}, strsL ds = some xs → ds = xs.map .str
  | [], _, h => by cases h; rfl
  | .str x :: r, _, h => by
    unfold strsL at h
    cases e : strsL r with
    | none => rw [e] at h; cases h
    | some ys => rw [e] at h; cases h; rw [strsL_is e]; rfl
  | .non :: r, _, h => by cases h
  | .bl _ :: r, _, h => by cases h
  | .int _ :: r, _, h => by cases h
  | .tup _ :: r, _, h => by cases h
  | .lst _ :: r, _, h => by cases h
  | .dic _ _ :: r, _, h => by cases h
  | .obj _ _ _ :: r, _, h => by cases h
  | .loc _ :: r, _, h => by cases h
  | .ty _ :: r, _, h => by cases h
  | .cls _ :: r, _, h => by cases h
  | .scr _ :: r, _, h => by cases h
section
variable {Z : Cz} {Er : ErW} {O : List Nat} {te ta tb tc td : TE} {ts : TS} {tl tk : TA} {tt : TT} {m m1 m2 m3 m4 : Env → M Dat} {mb : Env → M Bool} {ml mk : Env → M (List Dat)} {ms : Env → M Flow}
theorem isDs_strs {H : Hp} {p : Pl} : ∀ {xs : List Str} {vs : List V}, IsDs Z H p vs (xs.map .str) → vs = xs.map V.str
  | [], _, h => isDs_nil.mp h
  | x :: r, _, h => by
    obtain ⟨v, ws, rfl, h1, h2⟩ := isDs_cons.mp h
    rw [isD_str.mp h1, isDs_strs h2]
    rfl
def dSorted (ds : List Dat) : M Dat := match ds with
  | [.lst xs] => M.opt (strsL xs) >>= fun zs => M.need (decide (zs.length < 64)) >>= fun _ => pure (.lst ((sortS zs).map .str))
  | _ => M.no
theorem c_sorted : JC Z (IsDs Z) (IsD Z) (rSortedS Z.K) dSorted := fun x d Er H p S Q hx s q => by
  unfold dSorted at q
  split at q
  · obtain ⟨zs, ez, q⟩ := q.opt
    obtain ⟨c, q⟩ := q.need
    obtain ⟨v, rfl, hv⟩ := isDs_one hx
    obtain ⟨a, vs, rfl, h1, h2⟩ := isD_lst.mp hv
    rw [strsL_is ez] at h2
    rw [isDs_strs h2] at h1
    refine ⟨a, zs, rfl, h1.sq, of_decide_eq_true c, fun ys l pm so nl => ?_⟩
    rw [sortS_is pm so]
    exact q.at_new s nl _ (new_lst s nl (strs_of (xs := sortS zs)))
  · exact (bad_no (S := S) q).elim
def dStrS (ds : List Dat) : M Dat := match ds with
  | [.str x] => pure (.str x)
  | _ => M.no
theorem c_strS : JC Z (IsDs Z) (IsD Z) (fun xs H Q => ∃ a, xs = [.str a] ∧ Q (.str a) H) dStrS := fun x d Er H p S Q hx s q => by
  unfold dStrS at q
  split at q
  · obtain ⟨v, rfl, hv⟩ := isDs_one hx
    exact ⟨_, by rw [isD_str.mp hv], q.pure xE s _ (isD_str.mpr rfl)⟩
  · exact (bad_no (S := S) q).elim
/-! ### dict(pairs) -/
def pairsD : List Dat → Option (List (Key × Dat))
  | [] => some []
  | .tup [k, x] :: r => (keyD k).bind fun g => (pairsD r).map ((g, x) :: ·)
  | _ :: _ => none
def mergeD : List Key → List Dat → List (Key × Dat) → List Key × List Dat
  | ks, ds, [] => (ks, ds)
  | ks, ds, (k, x) :: r => mergeD (putKN k ks) (putKV k x ks ds) r
theorem merge_rel {H : Hp} {p : Pl} : ∀ {ps : List (Key × Dat)} {qs : List (Key × V)} {ks : List Key} {ds : List Dat} {vs : List V}, ks.length = vs.length → IsDs Z H p vs ds → qs.map (·.1) = ps.map (·.1) → IsDs Z H p (qs.map (·.2)) (ps.map (·.2)) →
    ∃ ws, mergeK (ks.zip vs) qs = (mergeD ks ds ps).1.zip ws ∧ (mergeD ks ds ps).1.length = ws.length ∧ IsDs Z H p ws (mergeD ks ds ps).2
  | [], qs, ks, ds, vs, hl, h, e, _ => by
    have : qs = [] := List.map_eq_nil_iff.mp e
    subst this
    exact ⟨vs, rfl, hl, h⟩
  | (k, x) :: ps, [], _, _, _, _, _, e, _ => by cases e
  | (k, x) :: ps, (k', y) :: qs, ks, ds, vs, hl, h, e, g => by
    rw [List.map_cons, List.map_cons] at e
    injection e with e1 e2
    have e1 : k' = k := e1
    subst e1
    rw [List.map_cons, List.map_cons] at g
    obtain ⟨v, r, e3, g1, g2⟩ := isDs_cons.mp g
    injection e3 with e3 e4
    subst e3 e4
    obtain ⟨ws, k1, k2, k3⟩ := putK_rel (k := k') g1 hl h
    obtain ⟨us, l1, l2, l3⟩ := merge_rel k2 k3 e2 g2
    refine ⟨us, ?_, l2, l3⟩
    show mergeK (putK (ks.zip vs) k' y) qs = _
    rw [k1]
    exact l1
def dDictP (ds : List Dat) : M Dat := match ds with
  | [.lst xs] => M.opt (pairsD xs) >>= fun ps => pure (.dic (mergeD [] [] ps).1 (mergeD [] [] ps).2)
  | _ => M.no
theorem pairs_rel {H : Hp} {p : Pl} : ∀ {xs : List Dat} {vs : List V} {ps : List (Key × Dat)}, pairsD xs = some ps → IsDs Z H p vs xs → ∃ (as : List Addr) (qs : List (Key × V)), vs = as.map V.ref ∧ Paired (fun a kv => SqT Z.K H a [kV kv.1, kv.2]) as qs ∧ qs.map (·.1) = ps.map (·.1) ∧ IsDs Z H p (qs.map (·.2)) (ps.map (·.2))
  | [], _, _, e, h => by cases e; exact ⟨[], [], isDs_nil.mp h, .nil, rfl, isDs_nil.mpr rfl⟩
  | d :: r, _, _, e, h => by
    obtain ⟨v, ws, rfl, h1, h2⟩ := isDs_cons.mp h
    unfold pairsD at e
    split at e
    · rename_i heq; cases heq
    · rename_i k x r' heq
      injection heq with e1 e2
      subst e1 e2
      cases ek : keyD k with
      | none => rw [ek] at e; cases e
      | some g =>
        rw [ek] at e
        cases er : pairsD r with
        | none => rw [er] at e; cases e
        | some qs0 =>
          rw [er] at e
          cases e
          obtain ⟨as, qs, e1, e2, e3, e4⟩ := pairs_rel er h2
          obtain ⟨a, us, rfl, g1, g2⟩ := isD_tup.mp h1
          obtain ⟨u, w, rfl, g3, g4⟩ := isDs_two g2
          rw [keyD_is g3 ek] at g1
          refine ⟨a :: as, (g, w) :: qs, by rw [e1]; rfl, .cons g1.sq e2, ?_, ?_⟩
          · rw [List.map_cons, List.map_cons, e3]
          · exact isDs_cons.mpr ⟨w, _, rfl, g4, e4⟩
    · cases e
theorem c_dictP : JC Z (IsDs Z) (IsD Z) (fun xs H Q => ∃ (a : Addr) (ps : List Addr) (kvs : List (Key × V)), xs = [.ref a] ∧ SqL Z.K H a (ps.map V.ref) ∧ Paired (fun p kv => SqT Z.K H p [kV kv.1, kv.2]) ps kvs ∧ ∀ p, H p = none → Q (.ref p) (L2.upd H p (.dK (mergeK [] kvs)))) dDictP := fun x d Er H p S Q hx s q => by
  unfold dDictP at q
  split at q
  · obtain ⟨ps, ep, q⟩ := q.opt
    obtain ⟨v, rfl, hv⟩ := isDs_one hx
    obtain ⟨a, vs, rfl, h1, h2⟩ := isD_lst.mp hv
    obtain ⟨as, qs, e1, e2, e3, e4⟩ := pairs_rel ep h2
    rw [e1] at h1
    refine ⟨a, as, qs, rfl, h1.sq, e2, fun l nl => ?_⟩
    obtain ⟨ws, k1, k2, k3⟩ := merge_rel (ks := []) (ds := []) (vs := []) rfl (isDs_nil.mpr rfl) e3 e4
    have k1 : mergeK [] qs = (mergeD [] [] ps).1.zip ws := k1
    rw [k1]
    refine q.at_new s nl _ (isD_dic.mpr ⟨l, ws, rfl, ⟨upd_same, ?_⟩, k2, k3.ext (ExtE.new nl).s⟩)
    exact no_has s nl
  · exact (bad_no (S := S) q).elim
/-! ### a chain of three -/
def xChain3 (f g h : Dat → Dat → M Dat) (a b c d : Env → M Dat) (ρ : Env) : M Dat := a ρ >>= fun x => b ρ >>= fun y => (f x y >>= fun z => M.opt (dB z)) >>= fun k => if k = true then c ρ >>= fun u => (g y u >>= fun z => M.opt (dB z)) >>= fun k2 => if k2 = true then d ρ >>= fun w => h u w else pure (.bl false) else pure (.bl false)
theorem j_chain3 {r r' r'' : L2.R2} {f g h : Dat → Dat → M Dat} (hr : JRD Z r f) (hr' : JRD Z r' g) (hr'' : JRD Z r'' h) (ha : JD Z Er O ta m1) (hb : JD Z Er O tb m2) (hc : JD Z Er O tc m3) (hd : JD Z Er O td m4) : JD Z Er O (tChain3 r r' r'' ta tb tc td) (xChain3 f g h m1 m2 m3 m4) := fun σ H p ρ S Q hE hS q =>
  ha σ H p ρ S _ hE hS ((q.bnd xE).mono fun d S1 H1 p1 e1 s1 q1 v hv => hb σ H1 p1 ρ S1 _ (hE.ext e1 hS) s1 ((q1.bnd xE).mono fun e S2 H2 p2 e2 s2 q2 w hw =>
    hr v w d e Er H2 p2 S2 _ (hv.ext e2.s) hw s2 (((q2.bnd xE).bnd xE).mono fun z S3 H3 p3 e3 s3 q3 zv hz => by
      obtain ⟨b, eb, k⟩ := opt_pure xE q3 s3
      rw [dB_some eb] at hz
      refine ⟨b, isD_bl.mp hz, ?_⟩
      cases b with
      | false => exact Post.pure xE k s3 _ (isD_bl.mpr rfl)
      | true =>
        rw [if_pos rfl]
        have k : Post Z Er ExtE ((m3 ρ >>= fun u => (g e u >>= fun z => M.opt (dB z)) >>= fun k2 => if k2 = true then m4 ρ >>= fun w => h u w else pure (.bl false)) S3) H3 p3 _ := k
        have hE3 := ((hE.ext e1 hS).ext e2 s1).ext e3 s2
        refine hc σ H3 p3 ρ S3 _ hE3 s3 ((k.bnd xE).mono fun u S4 H4 p4 e4 s4 q4 uv hu => ?_)
        refine hr' w uv e u Er H4 p4 S4 _ (hw.ext (e3.trans e4).s) hu s4 (((q4.bnd xE).bnd xE).mono fun z2 S5 H5 p5 e5 s5 q5 zv2 hz2 => ?_)
        obtain ⟨b2, eb2, k2⟩ := opt_pure xE q5 s5
        rw [dB_some eb2] at hz2
        refine ⟨b2, isD_bl.mp hz2, ?_⟩
        cases b2 with
        | false => exact Post.pure xE k2 s5 _ (isD_bl.mpr rfl)
        | true =>
          rw [if_pos rfl]
          have k2 : Post Z Er ExtE ((m4 ρ >>= fun w => h u w) S5) H5 p5 _ := k2
          exact hd σ H5 p5 ρ S5 _ ((hE3.ext e4 s3).ext e5 s4) s5 ((k2.bnd xE).mono fun x S6 H6 p6 e6 s6 q6 xv hx => hr'' uv xv u x Er H6 p6 S6 _ (hu.ext (e5.trans e6).s) hx s6 q6))))
end
section
variable {X : Cx} {a b c d : Expr} {pos : Pos} {ta tb tc td : TE}
theorem pt_chain3 {p1 p2 p3 : CmpOp} {r r' r'' : L2.R2} (o1 : OpR X (compareOp p1) r) (o2 : OpR X (compareOp p2) r') (o3 : OpR X (compareOp p3) r'') (ea : PE X a ta) (eb : PE X b tb) (ec : PE X c tc) (ed : PE X d td)
    (nm : lastMarks [p1, p2, p3] [b, c, d] = false := by with_unfolding_all rfl) : PT X (.Compare a [p1, p2, p3] [b, c, d] pos) (tTest (tChain3 r r' r'' ta tb tc td)) := by
  refine ⟨fun pins s σ H Q I g => ?_⟩
  refine isTrue_chain (thn (ea.run pins s σ H _ I g) fun va s1 ⟨x, H1, I1, ra, g1⟩ => test_link (thn (eb.run pins s1 σ H1 _ I1 g1) fun vb s2 ⟨y, H2, I2, rb, g2⟩ =>
    thn (o1 pins s2 σ H2 x y va vb _ I2 ra rb g2) fun vz s3 ⟨z, H3, I3, rz, k, ez, g3⟩ => ?_)) nm
  subst ez
  cases rz
  refine wpAny_truthy_bool ?_
  cases k with
  | false =>
    obtain ⟨k', e', q'⟩ := g3
    cases e'
    exact ite_ff ⟨H3, I3, q'⟩
  | true =>
    refine ite_tt (test_link (thn (ec.run pins s3 σ H3 _ I3 g3) fun vc s4 ⟨x2, H4, I4, rc, g4⟩ => thn (o2 pins s4 σ H4 y x2 vb vc _ I4 rb rc g4) fun vz2 s5 ⟨z2, H5, I5, rz2, k2, ez2, g5⟩ => ?_))
    subst ez2
    cases rz2
    refine wpAny_truthy_bool ?_
    cases k2 with
    | false =>
      obtain ⟨k', e', q'⟩ := g5
      cases e'
      exact ite_ff ⟨H5, I5, q'⟩
    | true =>
      refine ite_tt (test_last (thn (ed.run pins s5 σ H5 _ I5 g5) fun vd s6 ⟨x3, H6, I6, rd, g6⟩ => thn (o3 pins s6 σ H6 x2 x3 vc vd _ I6 rc rd g6) fun vz3 s7 ⟨z3, H7, I7, rz3, k3, ez3, g7⟩ => ?_))
      subst ez3
      cases rz3
      exact wpAny_truthy_bool ⟨H7, I7, g7⟩
end
end Zd

/-! a law's end over the small head: facts of the module by names, each a test -/
namespace Zd
open PySem PySem.Spec PyProof.Rows L2 Zg
theorem all_i {l : List Bool} (h : l.all id = true) (i : Nat) {b : Bool} (e : l[i]? = some b) : b = true := List.all_eq_true.mp h b (List.mem_of_getElem? e)
/-- a def of the hook without defaults, bare -/
theorem rawD {K : PySem.W.Frag} {x qual : Str} {st : Stmt} {kws : List (Str × V)} {f : Addr} (h : ∃ fd, FunD K x qual (defArgs st) (defBody st) (defScope st) [] kws f fd) :
    ∃ (oc : Value) (od : Option Addr) (kV doc pm : Value) (an : Option Addr) (cdv ct : Value) (osl : Array (Option Value)),
      K.lookup f = some ⟨oc, od, .func (PySem.W.fnOf x qual (defArgs st) (defBody st) (defScope st) .none kV doc pm an cdv ct), osl⟩ ∧ PySem.W.codeIn K cdv qual = true ∧ PySem.W.keepIn K (.ref f) = true := by
  obtain ⟨fd, F⟩ := h
  obtain ⟨oc, od, dV, kV, doc, pm, an, cdv, ct, osl, e, l, c, hd, _⟩ := F.ex
  rcases hd with ⟨_, e2⟩ | ⟨e2, _⟩
  · subst e2
    subst e
    exact ⟨oc, od, kV, doc, pm, an, cdv, ct, osl, l, c, F.kp⟩
  · exact absurd rfl e2
/-- a module's whole number -/
def numB (K : PySem.W.Frag) (x : Str) (i : Int) : Bool := match PySem.W.nsIn K mainGlobals x with
  | some (some (.int j _)) => decide (j = i)
  | _ => false
theorem numB_ok {K : PySem.W.Frag} {x : Str} {i : Int} (h : numB K x i = true) : ∃ t, PySem.W.nsIn K mainGlobals x = some (some (.int i t)) := by
  unfold numB at h
  split at h
  · rename_i j t e
    rw [← of_decide_eq_true h]
    exact ⟨t, e⟩
  · cases h
/-- an own exception class over an own one -/
def oexB (K : PySem.W.Frag) (C CW : Addr) : Bool := match K.lookup C with
  | some ⟨.type "type", _, .cls cd, sl⟩ => (match sl.toList with
    | [_, _, _, _, some (.builtin n), _] => decide (n = "ValueError.__new__") && (decide (cd.mro = [.ref C, .ref CW, .type "ValueError", .type "Exception", .type "BaseException", .type "object"]) && (cd.hasDict && !cd.hasDel))
    | _ => false)
  | _ => false
theorem oexB_ok {K : PySem.W.Frag} {C CW : Addr} (h : oexB K C CW = true) : ∃ (nm q : Str) (N : Addr) (bs : List Value) (sn : List Str) (sub : List Value) (ab : Bool) (col : Option Bool) (dd : Option Addr) (m0 m1 m2 m3 m5 : Option Value),
    K.lookup C = some (excClassObj nm q C N bs [.ref CW, .type "ValueError", .type "Exception", .type "BaseException", .type "object"] true sn sub ab col dd m0 m1 m2 m3 m5 "ValueError.__new__") := by
  unfold oexB at h
  split at h
  · rename_i dd cd sl ho
    split at h
    · rename_i k0 k1 k2 k3 n k5 hs
      obtain ⟨h1, h⟩ := He.ba h
      obtain ⟨h2, h⟩ := He.ba h
      obtain ⟨h3, h4⟩ := He.ba h
      obtain ⟨nm, bs, mro, ns, qn, hd, sn, sub, ab, col, del⟩ := cd
      have e1 := of_decide_eq_true h1
      have e2 : mro = _ := of_decide_eq_true h2
      have e3 : hd = true := h3
      have e4 : del = false := by
        cases del with
        | false => rfl
        | true => cases h4
      subst e1 e2 e3 e4
      have hsl : sl = #[k0, k1, k2, k3, some (.builtin "ValueError.__new__"), k5] := by
        obtain ⟨l⟩ := sl
        simp only at hs
        rw [hs]
      subst hsl
      exact ⟨nm, qn, ns, bs, sn, sub, ab, col, dd, k0, k1, k2, k3, k5, ho⟩
    · cases h
  · cases h
/-- the table at a place of the hook -/
theorem tab_raw {fa : List He.Fa} {fn : List He.DefD} {ts : List He.Tab} {w : World} {K : PySem.W.Frag} (c : He.SaysT fa fn ts w K) (i : Nat) {t : He.Tab} (h : ts[i]? = some t) : He.dicW K (t.1 K) = some (He.keysIn w.params t.2) := by
  have e : ts.map (fun t => He.dicW K (t.1 K)) = ts.map fun t => some (He.keysIn w.params t.2) := congrArg (fun z : He.AlT => z.2) c
  have e2 : (ts.map fun t => He.dicW K (t.1 K))[i]? = (ts.map fun t => some (He.keysIn w.params t.2))[i]? := by rw [e]
  rw [List.getElem?_map, List.getElem?_map, h] at e2
  exact Option.some.inj e2
/-! ### a hook over places that are told -/
abbrev AlL : Type := He.AlT × Bool
def obsL (as : List Addr) (fn : List He.DefD) (ts : List He.Tab) (ex : PySem.W.Frag → Bool) (g : Addr → Option Obj) : AlL := (He.obsT [] fn ts (He.frG g as), ex (He.frG g as))
def hookL (as : List Addr) (fn : List He.DefD) (ts : List He.Tab) (ex : PySem.W.Frag → Bool) : PySem.W.Hook where
  α := AlL
  obs := fun s => obsL as fn ts ex s.heap.get?
  val := fun w => (He.valT fn ts w, true)
  says := fun w h => ∃ K : PySem.W.Frag, K.In h ∧ He.SaysT [] fn ts w K ∧ ex K = true
  of := fun _ _ e => ⟨_, He.frG_in, congrArg (fun z : AlL => z.1) e, congrArg (fun z : AlL => z.2) e⟩
  keeps := fun _ _ _ ⟨K, hK, c⟩ k => ⟨K, PySem.W.Frag.In.keeps hK k, c⟩
theorem obsL_eq {as : List Addr} {fn : List He.DefD} {ts : List He.Tab} {ex : PySem.W.Frag → Bool} {g : Addr → Option Obj} {s : Shared} (h : ∀ a, g a = s.heap.get? a) : obsL as fn ts ex g = (hookL as fn ts ex).obs s := by
  have e : g = s.heap.get? := funext h
  rw [e] <;> rfl
theorem map2 {α β γ : Type} {o : Option α} {f : α → β} {g : α → γ} {b : β} {c : γ} (h1 : o.map f = some b) (h2 : o.map g = some c) : o.map (fun s => (f s, g s)) = some (b, c) := by
  cases o with
  | none => cases h1
  | some x => rw [← Option.some.inj h1, ← Option.some.inj h2] <;> rfl
theorem map2a {α : Type} {o : Option α} {f g : α → Bool} (h1 : o.map f = some true) (h2 : o.map g = some true) : o.map (fun s => (f s && g s)) = some true := by
  cases o with
  | none => cases h1
  | some x =>
    show some (f x && g x) = some true
    rw [show f x = true from Option.some.inj h1, show g x = true from Option.some.inj h2] <;> rfl
/-- a law's end over a head by facts, the law's own run calm -/
theorem walkGE {l : PySem.W.OpenLaw} {n k : Nat} {q : Program} {loose : List Str} {XP : (Str → Option Value) → Heap → Prop} {YP : World → Heap → Prop} {d : DefRec} {sp : PySem.W.Frag → Sp} {x : Str}
    (most : l.most = some n) (line : n ≤ sizeLine) (nodef : d.params.defaults = []) (room : Room k callerA)
    (F : ∀ (w : World) (mg : Str → Option Value) (fa : Addr) (h : Heap), YP w h → h.Ns mainGlobals mg → mg d.name = some (.ref fa) →
      ∃ (K : PySem.W.Frag) (fd : FuncData), K.In h ∧ (∀ (s : Shared) (u : Value), BindsTo s fd ⟨[u], []⟩ [(x, u)]) ∧
        ∀ base : Heap, K.In base → base.Ns mainGlobals mg → FnG l.prog w K mg base CX0 k fa fd [x] (sp K))
    (hsp : ∀ (K : PySem.W.Frag) (H : Hp) (a : Addr) (ns : List Int), ns.length ≤ n → SqL K H a (ns.map V.int) → sp K [.ref a] H (fun v _ => v = .bl true) fun _ _ _ => False) :
    PySem.W.WalkO q loose XP YP l.row.toRowW d [] (fun f vs => PySem.call f vs) := by
  refine Att.attach_call most nodef fun w s0 s1 mg mb fa o pm cd doc a vs ns G Y _ _ _ named obj whole few gens => ?_
  obtain ⟨K, fd, kin, bind, all⟩ := F w mg fa _ Y G.T.g named
  exact lawG kin G.T.g G.T.b G.T.builtins G.T.nolimit gens obj whole (Nat.le_trans few line) room all bind fun H hS => hsp _ H a ns few hS
end Zd

namespace Zd
open PySem PySem.Spec PyProof.Rows L2 Zg
def top (i : Nat) : Stmt := PySem.Challenge.pw_widerkeys_k13_what_is_a_step.main.body.getD i (.Pass ⟨0, 0, 0, 0⟩)
abbrev t_STEP_FORMS : List (Str × List Str) := [("add", ["column"]), ("drop", ["column", "side"]), ("up", ["column"]), ("no up", ["column"]), ("down", ["column", "rule"]), ("no down", ["column"]), ("fill", ["column", "manner"]), ("fill back", ["column", "manner", "rule"]), ("release", ["program"]), ("withdraw", ["program"]), ("grow", ["number"]), ("purge", ["number"])]
structure TxN (mg : Str → Option Value) (n_MOST_LETTERS : Tok) (n_LEAST_NARROW : Tok) (n_MOST_PACE : Tok) (n_MOST_IN_TWO_EVENTS : Tok) : Prop where
  g_MOST_LETTERS : mg "MOST_LETTERS" = some (.int 8 n_MOST_LETTERS)
  g_LEAST_NARROW : mg "LEAST_NARROW" = some (.int 16 n_LEAST_NARROW)
  g_MOST_PACE : mg "MOST_PACE" = some (.int 99 n_MOST_PACE)
  g_MOST_IN_TWO_EVENTS : mg "MOST_IN_TWO_EVENTS" = some (.int 2 n_MOST_IN_TWO_EVENTS)
abbrev s_is_integer : Stmt := (top 11)
abbrev N_is_integer : List Str := ["value"]
abbrev P_is_integer : List Str := ["value"]
theorem sc_is_integer : FnScope N_is_integer P_is_integer (defScope s_is_integer) := ⟨rfl, rfl, rfl, by decide +kernel, rfl, by decide +kernel, by decide +kernel⟩
def L_is_integer : List Dat → M Dat := runD N_is_integer.length (sRet (xAnd (xCB dIsi (xCons (xVar 0) (xCons (xC (.ty "int")) xNil))) (xNot (xCB dIsi (xCons (xVar 0) (xCons (xC (.ty "bool")) xNil))))))
abbrev s_is_between : Stmt := (top 12)
abbrev N_is_between : List Str := ["value", "low", "high"]
abbrev P_is_between : List Str := ["value", "low", "high"]
theorem sc_is_between : FnScope N_is_between P_is_between (defScope s_is_between) := ⟨rfl, rfl, rfl, by decide +kernel, rfl, by decide +kernel, by decide +kernel⟩
def L_is_between : List Dat → M Dat := runD N_is_between.length (sRet (xAnd (xCall L_is_integer (xCons (xVar 0) xNil)) (xChain dLe dLe (xVar 1) (xVar 0) (xVar 2))))
abbrev s_is_name : Stmt := (top 22)
abbrev N_is_name : List Str := ["value"]
abbrev P_is_name : List Str := ["value"]
theorem sc_is_name : FnScope N_is_name P_is_name (defScope s_is_name) := ⟨rfl, rfl, rfl, by decide +kernel, rfl, by decide +kernel, by decide +kernel⟩
def L_is_name : List Dat → M Dat := runD N_is_name.length (sSeq (sIf (bOr (bNot (bTest (xCB dIsi (xCons (xVar 0) (xCons (xC (.ty "str")) xNil))))) (bTest (xOp dGt (xCB dLenS (xCons (xVar 0) xNil)) (xC (.int 8))))) (sRet (xC (.bl false))) sNx)
    (sRet (xAnd (xUn (dM0' Txt.isascii) (xVar 0)) (xAnd (xUn (dM0' Txt.isalpha) (xVar 0)) (xUn (dM0' Txt.islower) (xVar 0))))))
abbrev s_is_tuple_of : Stmt := (top 23)
abbrev N_is_tuple_of : List Str := ["value", "least", "most"]
abbrev P_is_tuple_of : List Str := ["value", "least", "most"]
theorem sc_is_tuple_of : FnScope N_is_tuple_of P_is_tuple_of (defScope s_is_tuple_of) := ⟨rfl, rfl, rfl, by decide +kernel, rfl, by decide +kernel, by decide +kernel⟩
def L_is_tuple_of : List Dat → M Dat := runD N_is_tuple_of.length (sRet (xAnd (xCB dIsi (xCons (xVar 0) (xCons (xC (.ty "tuple")) xNil))) (xChain dLe dLe (xVar 1) (xCB dLen (xCons (xVar 0) xNil)) (xVar 2))))
abbrev s_is_ascending : Stmt := (top 24)
abbrev N_is_ascending : List Str := ["items", "one", "other"]
abbrev P_is_ascending : List Str := ["items"]
theorem sc_is_ascending : FnScope N_is_ascending P_is_ascending (defScope s_is_ascending) := ⟨rfl, rfl, rfl, by decide +kernel, rfl, by decide +kernel, by decide +kernel⟩
def L_is_ascending : List Dat → M Dat := runD N_is_ascending.length (sRet (xCB dAll (xCons (xLc (iZipM (xCons (xVar 0) (xCons (jSl dCutL (xVar 0) (oSome (xC (.int 1))) oNone) xNil))) (gT 2 (gCo (gN 1) (gCo (gN 2) gNl))) bYes (xOp dLtS (xVar 1) (xVar 2)) [1, 2]) xNil)))
def L_is_ascendingT : List Dat → M Dat := runD N_is_ascending.length (sRet (xCB dAll (xCons (xLc (iZipM (xCons (xVar 0) (xCons (jSl dCutT (xVar 0) (oSome (xC (.int 1))) oNone) xNil))) (gT 2 (gCo (gN 1) (gCo (gN 2) gNl))) bYes (xOp dLtS (xVar 1) (xVar 2)) [1, 2]) xNil)))
abbrev s_is_count : Stmt := (top 27)
abbrev N_is_count : List Str := ["value"]
abbrev P_is_count : List Str := ["value"]
theorem sc_is_count : FnScope N_is_count P_is_count (defScope s_is_count) := ⟨rfl, rfl, rfl, by decide +kernel, rfl, by decide +kernel, by decide +kernel⟩
def L_is_count : List Dat → M Dat := runD N_is_count.length (sRet (xAnd (xCall L_is_integer (xCons (xVar 0) xNil)) (xOp dGe (xVar 0) (xC (.int 0)))))
abbrev s_is_plain_part : Stmt := (top 26)
abbrev N_is_plain_part : List Str := ["part", "item"]
abbrev P_is_plain_part : List Str := ["part", "item"]
theorem sc_is_plain_part : FnScope N_is_plain_part P_is_plain_part (defScope s_is_plain_part) := ⟨rfl, rfl, rfl, by decide +kernel, rfl, by decide +kernel, by decide +kernel⟩
def L_is_plain_part : List Dat → M Dat := runD N_is_plain_part.length (sSeq (sIf (bTest (xOp dEq (xVar 0) (xC (.str "side")))) (sRet (xOp (dInS false) (xVar 1) (xC (strsT ["narrow", "wide"])))) sNx)
    (sSeq (sIf (bTest (xOp dEq (xVar 0) (xC (.str "rule")))) (sRet (xOp (dInS false) (xVar 1) (xC (strsT ["cut", "empty", "refuse"])))) sNx)
    (sSeq (sIf (bTest (xOp dEq (xVar 0) (xC (.str "manner")))) (sRet (xOp (dInS false) (xVar 1) (xC (strsT ["empty", "anew"])))) sNx)
    (sSeq (sIf (bTest (xOp dEq (xVar 0) (xC (.str "number")))) (sRet (xCall L_is_integer (xCons (xVar 1) xNil))) sNx)
    (sRet (xCall L_is_count (xCons (xVar 1) xNil)))))))
abbrev s__first_word : Stmt := (top 28)
abbrev N__first_word : List Str := ["value"]
abbrev P__first_word : List Str := ["value"]
theorem sc__first_word : FnScope N__first_word P__first_word (defScope s__first_word) := ⟨rfl, rfl, rfl, by decide +kernel, rfl, by decide +kernel, by decide +kernel⟩
def L__first_word : List Dat → M Dat := runD N__first_word.length (sSeq (sIf (bOr (bNot (bTest (xCB dIsi (xCons (xVar 0) (xCons (xC (.ty "tuple")) xNil))))) (bOr (bNot (bTru (xVar 0))) (bNot (bTest (xCB dIsi (xCons (xOp dIxT (xVar 0) (xC (.int 0))) (xCons (xC (.ty "str")) xNil))))))) (sRet (xC (.str ""))) sNx)
    (sRet (xOp dIxT (xVar 0) (xC (.int 0)))))
abbrev s_step_form : Stmt := (top 25)
abbrev N_step_form : List Str := ["value"]
abbrev P_step_form : List Str := ["value"]
theorem sc_step_form : FnScope N_step_form P_step_form (defScope s_step_form) := ⟨rfl, rfl, rfl, by decide +kernel, rfl, by decide +kernel, by decide +kernel⟩
def L_step_form : List Dat → M Dat := runD N_step_form.length (sRet (xKGet t_STEP_FORMS (xCall L__first_word (xCons (xVar 0) xNil))))
abbrev s_editions_of : Stmt := (top 1)
abbrev N_editions_of : List Str := ["world", "program", "name", "editions"]
abbrev P_editions_of : List Str := ["world", "program"]
theorem sc_editions_of : FnScope N_editions_of P_editions_of (defScope s_editions_of) := ⟨rfl, rfl, rfl, by decide +kernel, rfl, by decide +kernel, by decide +kernel⟩
def L_editions_of : List Dat → M Dat := runD N_editions_of.length (sSeq (sFor (iTp (xUn (dFldI "World" "programs") (xVar 0))) (gT 2 (gCo (gN 2) (gCo (gN 3) gNl))) (sIf (bTest (xOp (dEqD false) (xVar 2) (xVar 1))) (sRet (xVar 3)) sNx))
    (sRet (xTup xNil)))
abbrev s_Kind___init__ : Stmt := (inClass (top 36) 0)
abbrev N_Kind___init__ : List Str := ["self", "low", "high"]
abbrev P_Kind___init__ : List Str := ["self", "low", "high"]
theorem sc_Kind___init__ : FnScope N_Kind___init__ P_Kind___init__ (defScope s_Kind___init__) := ⟨rfl, rfl, rfl, by decide +kernel, rfl, by decide +kernel, by decide +kernel⟩
def L_Kind___init__ : List Dat → M Dat := runD N_Kind___init__.length (sSeq (sIf (bOr (bNot (bTest (xCall L_is_integer (xCons (xVar 1) xNil)))) (bOr (bNot (bTest (xCall L_is_integer (xCons (xVar 2) xNil)))) (bNot (bTest (xChain dLe dLe (xVar 1) (xC (.int 0)) (xVar 2)))))) sNo sNx)
    (sSeq (sSetFL "Kind" "low" (xVar 0) (xVar 1))
    (sSeq (sSetFL "Kind" "high" (xVar 0) (xVar 2))
    (sSetFL "Kind" "size" (xVar 0) (xOp dAdd (xOp dSub (xVar 2) (xVar 1)) (xC (.int 1)))))))
abbrev s_Kind___le__ : Stmt := (inClass (top 36) 8)
abbrev N_Kind___le__ : List Str := ["self", "other"]
abbrev P_Kind___le__ : List Str := ["self", "other"]
theorem sc_Kind___le__ : FnScope N_Kind___le__ P_Kind___le__ (defScope s_Kind___le__) := ⟨rfl, rfl, rfl, by decide +kernel, rfl, by decide +kernel, by decide +kernel⟩
def L_Kind___le__ : List Dat → M Dat := runD N_Kind___le__.length (sSeq (sIf (bNot (bTest (xCB (dIsiI "Kind") (xCons (xVar 1) (xCons (xC (.cls "Kind")) xNil))))) sNo sNx)
    (sRet (xAnd (xOp dLe (xUn (dFldI "Kind" "low") (xVar 1)) (xUn (dFldI "Kind" "low") (xVar 0))) (xOp dLe (xUn (dFldI "Kind" "high") (xVar 0)) (xUn (dFldI "Kind" "high") (xVar 1))))))
abbrev s_Kind___eq__ : Stmt := (inClass (top 36) 7)
abbrev N_Kind___eq__ : List Str := ["self", "other"]
abbrev P_Kind___eq__ : List Str := ["self", "other"]
theorem sc_Kind___eq__ : FnScope N_Kind___eq__ P_Kind___eq__ (defScope s_Kind___eq__) := ⟨rfl, rfl, rfl, by decide +kernel, rfl, by decide +kernel, by decide +kernel⟩
def L_Kind___eq__ : List Dat → M Dat := runD N_Kind___eq__.length (sRet (xAnd (xCB (dIsiI "Kind") (xCons (xVar 1) (xCons (xC (.cls "Kind")) xNil))) (xAnd (xOp dEq (xUn (dFldI "Kind" "low") (xVar 0)) (xUn (dFldI "Kind" "low") (xVar 1))) (xOp dEq (xUn (dFldI "Kind" "high") (xVar 0)) (xUn (dFldI "Kind" "high") (xVar 1))))))
abbrev s_Kind___lt__ : Stmt := (inClass (top 36) 9)
abbrev N_Kind___lt__ : List Str := ["self", "other"]
abbrev P_Kind___lt__ : List Str := ["self", "other"]
theorem sc_Kind___lt__ : FnScope N_Kind___lt__ P_Kind___lt__ (defScope s_Kind___lt__) := ⟨rfl, rfl, rfl, by decide +kernel, rfl, by decide +kernel, by decide +kernel⟩
def L_Kind___lt__ : List Dat → M Dat := runD N_Kind___lt__.length (sSeq (sIf (bNot (bTest (xCB (dIsiI "Kind") (xCons (xVar 1) (xCons (xC (.cls "Kind")) xNil))))) sNo sNx)
    (sRet (xAnd (xOp (dOwn2 "Kind" L_Kind___le__) (xVar 0) (xVar 1)) (xNot (xOp (dOwn2 "Kind" L_Kind___eq__) (xVar 0) (xVar 1))))))
abbrev s__are_kinds : Stmt := (top 47)
abbrev N__are_kinds : List Str := ["narrow", "wide"]
abbrev P__are_kinds : List Str := ["narrow", "wide"]
theorem sc__are_kinds : FnScope N__are_kinds P__are_kinds (defScope s__are_kinds) := ⟨rfl, rfl, rfl, by decide +kernel, rfl, by decide +kernel, by decide +kernel⟩
def L__are_kinds : List Dat → M Dat := runD N__are_kinds.length (sSeq (sIf (bOr (bNot (bTest (xCB (dIsiI "Kind") (xCons (xVar 0) (xCons (xC (.cls "Kind")) xNil))))) (bNot (bTest (xCB (dIsiI "Kind") (xCons (xVar 1) (xCons (xC (.cls "Kind")) xNil)))))) (sRet (xC (.bl false))) sNx)
    (sRet (xAnd (xOp (dOwn2 "Kind" L_Kind___lt__) (xVar 0) (xVar 1)) (xOp dGe (xUn (dFldI "Kind" "size") (xVar 0)) (xC (.int 16))))))
abbrev s__are_columns : Stmt := (top 48)
abbrev N__are_columns : List Str := ["columns", "column"]
abbrev P__are_columns : List Str := ["columns"]
theorem sc__are_columns : FnScope N__are_columns P__are_columns (defScope s__are_columns) := ⟨rfl, rfl, rfl, by decide +kernel, rfl, by decide +kernel, by decide +kernel⟩
def L__are_columns : List Dat → M Dat := runD N__are_columns.length (sSeq (sIf (bOr (bNot (bTest (xCall L_is_tuple_of (xCons (xVar 0) (xCons (xC (.int 1)) (xCons (xC (.int 3)) xNil)))))) (bNot (bTest (xCB dAll (xCons (xLc (iTp (xVar 0)) (gN 1) bYes (xCall L_is_name (xCons (xVar 1) xNil)) [1]) xNil))))) (sRet (xC (.bl false))) sNx)
    (sRet (xCall L_is_ascendingT (xCons (xVar 0) xNil))))
abbrev s__are_rows : Stmt := (top 52)
abbrev N__are_rows : List Str := ["columns", "value", "many", "row"]
abbrev P__are_rows : List Str := ["columns", "value", "many"]
theorem sc__are_rows : FnScope N__are_rows P__are_rows (defScope s__are_rows) := ⟨rfl, rfl, rfl, by decide +kernel, rfl, by decide +kernel, by decide +kernel⟩
def L__are_rows : List Dat → M Dat := runD N__are_rows.length (sSeq (sIf (bNot (bTest (xCB dIsi (xCons (xVar 1) (xCons (xC (.ty "tuple")) xNil))))) (sRet (xC (.bl false))) sNx)
    (sSeq (sFor (iTp (xVar 1)) (gN 3) (sIf (bOr (bNot (bTest (xCall L_is_tuple_of (xCons (xVar 3) (xCons (xVar 2) (xCons (xVar 2) xNil)))))) (bTest (xOp (dInS true) (xOp dIxT (xVar 3) (xC (.int 0))) (xVar 0)))) (sRet (xC (.bl false))) sNx))
    (sRet (xCall L_is_ascending (xCons (xLc (iTp (xVar 1)) (gN 3) bYes (xOp dIxT (xVar 3) (xC (.int 0))) [3]) xNil)))))
abbrev s__is_read : Stmt := (top 53)
abbrev N__is_read : List Str := ["row", "_", "side", "deeds", "deed"]
abbrev P__is_read : List Str := ["row"]
theorem sc__is_read : FnScope N__is_read P__is_read (defScope s__is_read) := ⟨rfl, rfl, rfl, by decide +kernel, rfl, by decide +kernel, by decide +kernel⟩
def L__is_read : List Dat → M Dat := runD N__is_read.length (sSeq (sAsg (xVar 0) (gT 3 (gCo (gN 1) (gCo (gN 2) (gCo (gN 3) gNl)))))
    (sSeq (sIf (bOr (bTest (xOp (dInS true) (xVar 2) (xC (strsT ["narrow", "wide", "either"])))) (bNot (bTest (xCB dIsi (xCons (xVar 3) (xCons (xC (.ty "tuple")) xNil)))))) (sRet (xC (.bl false))) sNx)
    (sRet (xAnd (xCB dAll (xCons (xLc (iTp (xVar 3)) (gN 4) bYes (xOp (dInS false) (xVar 4) (xC (strsT ["match", "order", "show"]))) [4]) xNil)) (xCall L_is_ascendingT (xCons (xVar 3) xNil))))))
abbrev s__is_write : Stmt := (top 54)
abbrev N__is_write : List Str := ["sources", "row", "column", "how", "rule", "source", "pace"]
abbrev P__is_write : List Str := ["sources", "row"]
theorem sc__is_write : FnScope N__is_write P__is_write (defScope s__is_write) := ⟨rfl, rfl, rfl, by decide +kernel, rfl, by decide +kernel, by decide +kernel⟩
def L__is_write : List Dat → M Dat := runD N__is_write.length (sSeq (sAsg (xVar 1) (gT 5 (gCo (gN 2) (gCo (gN 3) (gCo (gN 4) (gCo (gN 5) (gCo (gN 6) gNl)))))))
    (sSeq (sIf (bOr (bTest (xOp (dInS true) (xVar 3) (xC (strsT ["narrow", "wide", "both", "narrow first", "wide first"])))) (bOr (bTest (xOp (dInS true) (xVar 4) (xC (strsT ["cut", "empty", "refuse"])))) (bNot (bTest (xCall L_is_between (xCons (xVar 6) (xCons (xC (.int 0)) (xCons (xC (.int 99)) xNil)))))))) (sRet (xC (.bl false))) sNx)
    (sRet (xOr (xOp dEq (xVar 5) (xC (.str ""))) (xAnd (xOp (dInS false) (xVar 5) (xVar 0)) (xOp dNe (xVar 5) (xVar 2)))))))
abbrev s__is_edition : Stmt := (top 51)
abbrev N__is_edition : List Str := ["columns", "value", "sight", "reads", "writes", "sources", "row"]
abbrev P__is_edition : List Str := ["columns", "value"]
theorem sc__is_edition : FnScope N__is_edition P__is_edition (defScope s__is_edition) := ⟨rfl, rfl, rfl, by decide +kernel, rfl, by decide +kernel, by decide +kernel⟩
def L__is_edition : List Dat → M Dat := runD N__is_edition.length (sSeq (sIf (bNot (bTest (xCall L_is_tuple_of (xCons (xVar 1) (xCons (xC (.int 3)) (xCons (xC (.int 3)) xNil)))))) (sRet (xC (.bl false))) sNx)
    (sSeq (sAsg (xVar 1) (gT 3 (gCo (gN 2) (gCo (gN 3) (gCo (gN 4) gNl)))))
    (sSeq (sIf (bOr (bTest (xOp (dInS true) (xVar 2) (xC (strsT ["narrow", "wide"])))) (bOr (bNot (bTest (xCall L__are_rows (xCons (xVar 0) (xCons (xVar 3) (xCons (xC (.int 3)) xNil)))))) (bNot (bTest (xCall L__are_rows (xCons (xVar 0) (xCons (xVar 4) (xCons (xC (.int 5)) xNil)))))))) (sRet (xC (.bl false))) sNx)
    (sSeq (sIf (bNot (bTest (xCB dAll (xCons (xLc (iTp (xVar 3)) (gN 6) bYes (xCall L__is_read (xCons (xVar 6) xNil)) [6]) xNil)))) (sRet (xC (.bl false))) sNx)
    (sSeq (sAsg (xLc (iTp (xVar 3)) (gN 6) bYes (xOp dIxT (xVar 6) (xC (.int 0))) [6]) (gN 5))
    (sRet (xCB dAll (xCons (xLc (iTp (xVar 4)) (gN 6) bYes (xCall L__is_write (xCons (xVar 5) (xCons (xVar 6) xNil))) [6]) xNil))))))))
abbrev s__is_first_edition : Stmt := (top 55)
abbrev N__is_first_edition : List Str := ["edition", "_", "reads", "writes", "row"]
abbrev P__is_first_edition : List Str := ["edition"]
theorem sc__is_first_edition : FnScope N__is_first_edition P__is_first_edition (defScope s__is_first_edition) := ⟨rfl, rfl, rfl, by decide +kernel, rfl, by decide +kernel, by decide +kernel⟩
def L__is_first_edition : List Dat → M Dat := runD N__is_first_edition.length (sSeq (sAsg (xVar 0) (gT 3 (gCo (gN 1) (gCo (gN 2) (gCo (gN 3) gNl)))))
    (sSeq (sIf (bNot (bTest (xCB dAll (xCons (xLc (iTp (xVar 2)) (gN 4) bYes (xOp (dInS false) (xOp dIxT (xVar 4) (xC (.int 1))) (xTup (xCons (xC (.str "narrow")) (xCons (xC (.str "either")) xNil)))) [4]) xNil)))) (sRet (xC (.bl false))) sNx)
    (sRet (xCB dAll (xCons (xLc (iTp (xVar 3)) (gN 4) bYes (xOp dEq (xOp dIxT (xVar 4) (xC (.int 1))) (xC (.str "narrow"))) [4]) xNil)))))
abbrev s__is_program : Stmt := (top 50)
abbrev N__is_program : List Str := ["columns", "value", "name", "editions", "edition"]
abbrev P__is_program : List Str := ["columns", "value"]
theorem sc__is_program : FnScope N__is_program P__is_program (defScope s__is_program) := ⟨rfl, rfl, rfl, by decide +kernel, rfl, by decide +kernel, by decide +kernel⟩
def L__is_program : List Dat → M Dat := runD N__is_program.length (sSeq (sIf (bNot (bTest (xCall L_is_tuple_of (xCons (xVar 1) (xCons (xC (.int 2)) (xCons (xC (.int 2)) xNil)))))) (sRet (xC (.bl false))) sNx)
    (sSeq (sAsg (xVar 1) (gT 2 (gCo (gN 2) (gCo (gN 3) gNl))))
    (sSeq (sIf (bOr (bNot (bTest (xCall L_is_name (xCons (xVar 2) xNil)))) (bNot (bTest (xCall L_is_tuple_of (xCons (xVar 3) (xCons (xC (.int 1)) (xCons (xC (.int 3)) xNil))))))) (sRet (xC (.bl false))) sNx)
    (sSeq (sIf (bNot (bTest (xCB dAll (xCons (xLc (iTp (xVar 3)) (gN 4) bYes (xCall L__is_edition (xCons (xVar 0) (xCons (xVar 4) xNil))) [4]) xNil)))) (sRet (xC (.bl false))) sNx)
    (sRet (xCall L__is_first_edition (xCons (xOp dIxT (xVar 3) (xC (.int 0))) xNil)))))))
abbrev s__many_in_two_events : Stmt := (top 56)
abbrev N__many_in_two_events : List Str := ["programs", "many", "_", "editions", "writes", "row"]
abbrev P__many_in_two_events : List Str := ["programs"]
theorem sc__many_in_two_events : FnScope N__many_in_two_events P__many_in_two_events (defScope s__many_in_two_events) := ⟨rfl, rfl, rfl, by decide +kernel, rfl, by decide +kernel, by decide +kernel⟩
def L__many_in_two_events : List Dat → M Dat := runD N__many_in_two_events.length (sSeq (sAsg (xC (.int 0)) (gN 1))
    (sSeq (sFor (iTp (xVar 0)) (gT 2 (gCo (gN 2) (gCo (gN 3) gNl))) (sFor (iTp (xVar 3)) (gT 3 (gCo (gN 2) (gCo (gN 2) (gCo (gN 4) gNl)))) (sAsg (xOp dAdd (xVar 1) (xCB dLen (xCons (xLc (iTp (xVar 4)) (gN 5) (bTest (xOp (dInS false) (xOp dIxT (xVar 5) (xC (.int 1))) (xC (strsT ["narrow first", "wide first"])))) (xVar 5) [5]) xNil))) (gN 1))))
    (sRet (xVar 1))))
abbrev s__are_programs : Stmt := (top 49)
abbrev N__are_programs : List Str := ["columns", "programs", "program", "name", "_"]
abbrev P__are_programs : List Str := ["columns", "programs"]
theorem sc__are_programs : FnScope N__are_programs P__are_programs (defScope s__are_programs) := ⟨rfl, rfl, rfl, by decide +kernel, rfl, by decide +kernel, by decide +kernel⟩
def L__are_programs : List Dat → M Dat := runD N__are_programs.length (sSeq (sIf (bNot (bTest (xCall L_is_tuple_of (xCons (xVar 1) (xCons (xC (.int 1)) (xCons (xC (.int 3)) xNil)))))) (sRet (xC (.bl false))) sNx)
    (sSeq (sIf (bNot (bTest (xCB dAll (xCons (xLc (iTp (xVar 1)) (gN 2) bYes (xCall L__is_program (xCons (xVar 0) (xCons (xVar 2) xNil))) [2]) xNil)))) (sRet (xC (.bl false))) sNx)
    (sSeq (sIf (bNot (bTest (xCall L_is_ascending (xCons (xLc (iTp (xVar 1)) (gT 2 (gCo (gN 3) (gCo (gN 4) gNl))) bYes (xVar 3) [3, 4]) xNil)))) (sRet (xC (.bl false))) sNx)
    (sRet (xOp dLe (xCall L__many_in_two_events (xCons (xVar 1) xNil)) (xC (.int 2)))))))
abbrev s_World___init__ : Stmt := (inClass (top 46) 0)
abbrev N_World___init__ : List Str := ["self", "narrow", "wide", "columns", "programs", "fits"]
abbrev P_World___init__ : List Str := ["self", "narrow", "wide", "columns", "programs"]
theorem sc_World___init__ : FnScope N_World___init__ P_World___init__ (defScope s_World___init__) := ⟨rfl, rfl, rfl, by decide +kernel, rfl, by decide +kernel, by decide +kernel⟩
def L_World___init__ : List Dat → M Dat := runD N_World___init__.length (sSeq (sAsg (xAnd (xCall L__are_kinds (xCons (xVar 1) (xCons (xVar 2) xNil))) (xAnd (xCall L__are_columns (xCons (xVar 3) xNil)) (xCall L__are_programs (xCons (xVar 3) (xCons (xVar 4) xNil))))) (gN 5))
    (sSeq (sIf (bNot (bTest (xVar 5))) sNo sNx)
    (sSeq (sSetFL "World" "narrow" (xVar 0) (xVar 1))
    (sSeq (sSetFL "World" "wide" (xVar 0) (xVar 2))
    (sSeq (sSetFL "World" "columns" (xVar 0) (xVar 3))
    (sSetFL "World" "programs" (xVar 0) (xVar 4)))))))
abbrev s__is_part : Stmt := (top 32)
abbrev N__is_part : List Str := ["world", "part", "item"]
abbrev P__is_part : List Str := ["world", "part", "item"]
theorem sc__is_part : FnScope N__is_part P__is_part (defScope s__is_part) := ⟨rfl, rfl, rfl, by decide +kernel, rfl, by decide +kernel, by decide +kernel⟩
def L__is_part : List Dat → M Dat := runD N__is_part.length (sSeq (sIf (bTest (xOp dEq (xVar 1) (xC (.str "column")))) (sRet (xOp (dInS false) (xVar 2) (xUn (dFldI "World" "columns") (xVar 0)))) sNx)
    (sSeq (sIf (bTest (xOp dEq (xVar 1) (xC (.str "program")))) (sRet (xOp (dEqD true) (xCall L_editions_of (xCons (xVar 0) (xCons (xVar 2) xNil))) (xTup xNil))) sNx)
    (sRet (xCall L_is_plain_part (xCons (xVar 1) (xCons (xVar 2) xNil))))))
abbrev s_are_parts : Stmt := (top 31)
abbrev N_are_parts : List Str := ["world", "form", "items", "part", "item"]
abbrev P_are_parts : List Str := ["world", "form", "items"]
theorem sc_are_parts : FnScope N_are_parts P_are_parts (defScope s_are_parts) := ⟨rfl, rfl, rfl, by decide +kernel, rfl, by decide +kernel, by decide +kernel⟩
def L_are_parts : List Dat → M Dat := runD N_are_parts.length (sSeq (sIf (bTest (xOp dNe (xCB dLen (xCons (xVar 2) xNil)) (xCB dLen (xCons (xVar 1) xNil)))) (sRet (xC (.bl false))) sNx)
    (sRet (xCB dAll (xCons (xLc (iZipM (xCons (xVar 1) (xCons (xVar 2) xNil))) (gT 2 (gCo (gN 3) (gCo (gN 4) gNl))) bYes (xCall L__is_part (xCons (xVar 0) (xCons (xVar 3) (xCons (xVar 4) xNil)))) [3, 4]) xNil))))
abbrev s_is_step : Stmt := (top 30)
abbrev N_is_step : List Str := ["world", "value", "form"]
abbrev P_is_step : List Str := ["world", "value"]
theorem sc_is_step : FnScope N_is_step P_is_step (defScope s_is_step) := ⟨rfl, rfl, rfl, by decide +kernel, rfl, by decide +kernel, by decide +kernel⟩
def L_is_step : List Dat → M Dat := runD N_is_step.length (sSeq (sAsg (xCall L_step_form (xCons (xVar 1) xNil)) (gN 2))
    (sRet (xAnd (xOp dNotN (xVar 2) (xC .non)) (xCall L_are_parts (xCons (xVar 0) (xCons (xVar 2) (xCons (jSl dCutT (xVar 1) (oSome (xC (.int 1))) oNone) xNil)))))))
abbrev s__law_pot_of : Stmt := (top 58)
abbrev N__law_pot_of : List Str := ["_law_script", "_law_k", "_law_cell", "_law_own"]
abbrev P__law_pot_of : List Str := ["_law_script", "_law_k"]
theorem sc__law_pot_of : FnScope N__law_pot_of P__law_pot_of (defScope s__law_pot_of) := ⟨rfl, rfl, rfl, by decide +kernel, rfl, by decide +kernel, by decide +kernel⟩
def L__law_pot_of : List Dat → M Dat := runD N__law_pot_of.length (sSeq (sAsg (xIf (bTest (xOp dLt (xVar 1) (xCB dLen (xCons (xVar 0) xNil)))) (xOp dIxSc (xVar 0) (xVar 1)) (xOp dAdd (xOp dMul (xC (.int 53)) (xVar 1)) (xC (.int 29)))) (gN 2))
    (sSeq (sAsg (xOp dMul (xOp dMod (xCB dInt (xCons (xCB dAbs (xCons (xVar 2) xNil)) xNil)) (xOp dPowZ (xOp dPow (xC (.int 10)) (xC (.int 60))) (xC (.int 5)))) (xCB dInt (xCons (xOp dGe (xCB dAbs (xCons (xVar 2) xNil)) (xOp dPow (xC (.int 10)) (xC (.int 18)))) xNil))) (gN 3))
    (sRetLo (xLst (xCons (xVar 3) (xCons (xOp dMod (xOp dAdd (xOp dAdd (xOp dMul (xOp dMod (xCB dInt (xCons (xVar 2) xNil)) (xC (.int 2305843009213693951))) (xC (.int 74093))) (xOp dMul (xOp dMul (xC (.int 7013)) (xVar 1)) (xVar 1))) (xC (.int 41))) (xC (.int 2305843009213693921))) (xCons (xC (.int 0)) xNil)))))))
abbrev s__law_take : Stmt := (top 59)
abbrev N__law_take : List Str := ["_law_pot", "_law_upto", "_law_digit", "_law_prime", "_law_mixed"]
abbrev P__law_take : List Str := ["_law_pot", "_law_upto"]
theorem sc__law_take : FnScope N__law_take P__law_take (defScope s__law_take) := ⟨rfl, rfl, rfl, by decide +kernel, rfl, by decide +kernel, by decide +kernel⟩
def L__law_take : List Dat → M Dat := runD N__law_take.length (sSeq (sIf (bTest (xOp dGt (xOp dIxLo (xVar 0) (xC (.int 0))) (xC (.int 0)))) (sSeq (sAsg (xOp dMod (xCB dInt (xCons (xOp dIxLo (xVar 0) (xC (.int 0))) xNil)) (xVar 1)) (gN 2))
    (sSeq (sSetLo 0 (xC (.int 0)) (xOp dDiv (xOp dIxLo (xVar 0) (xC (.int 0))) (xVar 1)))
    (sRet (xVar 2)))) sNx)
    (sSeq (sSetLo 0 (xC (.int 2)) (xOp dAdd (xOp dIxLo (xVar 0) (xC (.int 2))) (xC (.int 1))))
    (sSeq (sAsg (xOp dIxL (xLst (xCons (xC (.int 2147483647)) (xCons (xC (.int 2147483629)) (xCons (xC (.int 2147483587)) (xCons (xC (.int 2147483579)) (xCons (xC (.int 2147483563)) xNil)))))) (xOp dMod (xCB dInt (xCons (xOp dIxLo (xVar 0) (xC (.int 2))) xNil)) (xC (.int 5)))) (gN 3))
    (sSeq (sAsg (xOp dMod (xOp dPow (xCB dInt (xCons (xOp dAdd (xOp dAdd (xOp dIxLo (xVar 0) (xC (.int 1))) (xOp dMul (xOp dMul (xC (.int 60089)) (xOp dIxLo (xVar 0) (xC (.int 2)))) (xOp dIxLo (xVar 0) (xC (.int 2))))) (xC (.int 61))) xNil)) (xC (.int 3))) (xVar 3)) (gN 4))
    (sSeq (sAsg (xOp dMod (xCB dInt (xCons (xOp dMul (xVar 4) (xOp dAdd (xOp dMod (xCB dInt (xCons (xVar 4) xNil)) (xC (.int 10061))) (xOp dMul (xC (.int 97)) (xOp dIxLo (xVar 0) (xC (.int 2)))))) xNil)) (xC (.int 2305843009213693951))) (gN 4))
    (sRet (xOp dMod (xOp dDiv (xVar 4) (xC (.int 103))) (xVar 1))))))))
abbrev s__law_of : Stmt := (top 60)
abbrev N__law_of : List Str := ["_law_pot", "_law_some"]
abbrev P__law_of : List Str := ["_law_pot", "_law_some"]
theorem sc__law_of : FnScope N__law_of P__law_of (defScope s__law_of) := ⟨rfl, rfl, rfl, by decide +kernel, rfl, by decide +kernel, by decide +kernel⟩
def L__law_of : List Dat → M Dat := runD N__law_of.length (sRet (xOp dIxL (xVar 1) (xCall L__law_take (xCons (xVar 0) (xCons (xCB dLen (xCons (xVar 1) xNil)) xNil)))))
abbrev s__law_some_names : Stmt := (top 61)
abbrev N__law_some_names : List Str := ["_law_pot", "_law_many", "_law_some", "_law_turn", "_law_name"]
abbrev P__law_some_names : List Str := ["_law_pot", "_law_many"]
theorem sc__law_some_names : FnScope N__law_some_names P__law_some_names (defScope s__law_some_names) := ⟨rfl, rfl, rfl, by decide +kernel, rfl, by decide +kernel, by decide +kernel⟩
def L__law_some_names : List Dat → M Dat := runD N__law_some_names.length (sSeq (sAsg (xLst (xCons (xC (.str "a")) (xCons (xC (.str "id")) (xCons (xC (.str "key")) (xCons (xC (.str "no")) (xCons (xC (.str "ref")) (xCons (xC (.str "up")) (xCons (xC (.str "zz")) (xCons (xC (.str "column")) (xCons (xC (.str "abcdefgh")) xNil)))))))))) (gN 2))
    (sSeq (sAsg (xCall L__law_take (xCons (xVar 0) (xCons (xCB dLen (xCons (xVar 2) xNil)) xNil))) (gN 3))
    (sRet (xCB dSorted (xCons (xLc (iLst (jSl dCutL (xOp dCatL (jSl dCutL (xVar 2) (oSome (xVar 3)) oNone) (jSl dCutL (xVar 2) oNone (oSome (xVar 3)))) oNone (oSome (xVar 1)))) (gN 4) bYes (xCB dStrS (xCons (xVar 4) xNil)) [4]) xNil)))))
abbrev s__law_reads : Stmt := (top 62)
abbrev N__law_reads : List Str := ["_law_pot", "_law_columns", "_law_is_first", "_law_sight", "_law_sides", "_law_deeds", "_law_found", "_law_column"]
abbrev P__law_reads : List Str := ["_law_pot", "_law_columns", "_law_is_first", "_law_sight"]
theorem sc__law_reads : FnScope N__law_reads P__law_reads (defScope s__law_reads) := ⟨rfl, rfl, rfl, by decide +kernel, rfl, by decide +kernel, by decide +kernel⟩
def L__law_reads : List Dat → M Dat := runD N__law_reads.length (sSeq (sAsg (xLst (xCons (xC (.str "narrow")) (xCons (xC (.str "narrow")) (xCons (xC (.str "narrow")) (xCons (xC (.str "either")) xNil))))) (gN 4))
    (sSeq (sIf (bNot (bTest (xVar 2))) (sAsg (xOp dIxL (xLst (xCons (xLst (xCons (xC (.str "narrow")) (xCons (xC (.str "narrow")) (xCons (xC (.str "either")) (xCons (xC (.str "wide")) xNil))))) (xCons (xLst (xCons (xC (.str "wide")) (xCons (xC (.str "wide")) (xCons (xC (.str "either")) (xCons (xC (.str "narrow")) xNil))))) xNil))) (xCB dInt (xCons (xOp dEq (xVar 3) (xC (.str "wide"))) xNil))) (gN 4)) sNx)
    (sSeq (sAsg (xLst (xCons (xTup (xCons (xC (.str "show")) xNil)) (xCons (xTup (xCons (xC (.str "show")) xNil)) (xCons (xTup (xCons (xC (.str "match")) xNil)) (xCons (xTup (xCons (xC (.str "match")) (xCons (xC (.str "show")) xNil))) (xCons (xTup (xCons (xC (.str "match")) (xCons (xC (.str "order")) xNil))) (xCons (xTup (xCons (xC (.str "order")) xNil)) (xCons (xTup xNil) xNil)))))))) (gN 5))
    (sSeq (sAsg (xOp dCatL (xVar 5) (xLst (xCons (xTup (xCons (xC (.str "match")) (xCons (xC (.str "order")) (xCons (xC (.str "show")) xNil)))) (xCons (xTup (xCons (xC (.str "order")) (xCons (xC (.str "show")) xNil))) xNil)))) (gN 5))
    (sSeq (sAsg (xNewLo (xLst xNil)) (gN 6))
    (sSeq (sFor (iLst (xVar 1)) (gN 7) (sIf (bTest (xOp dGt (xCall L__law_take (xCons (xVar 0) (xCons (xC (.int 5)) xNil))) (xC (.int 0)))) (sAppLo (xVar 6) (xCons (xTup (xCons (xVar 7) (xCons (xCall L__law_of (xCons (xVar 0) (xCons (xVar 4) xNil))) (xCons (xCall L__law_of (xCons (xVar 0) (xCons (xVar 5) xNil))) xNil)))) xNil)) sNx))
    (sRet (xCB dTupleLo (xCons (xVar 6) xNil)))))))))
abbrev s__law_writes : Stmt := (top 63)
abbrev N__law_writes : List Str := ["_law_pot", "_law_columns", "_law_reads_here", "_law_is_first", "_law_left", "_law_found", "_law_column", "_law_how", "_law_sources", "_law_rule", "_law_row"]
abbrev P__law_writes : List Str := ["_law_pot", "_law_columns", "_law_reads_here", "_law_is_first", "_law_left"]
theorem sc__law_writes : FnScope N__law_writes P__law_writes (defScope s__law_writes) := ⟨rfl, rfl, rfl, by decide +kernel, rfl, by decide +kernel, by decide +kernel⟩
def L__law_writes : List Dat → M Dat := runD N__law_writes.length (sSeq (sAsg (xNewLo (xLst xNil)) (gN 5))
    (sSeq (sFor (iLst (xVar 1)) (gN 6) (sIf (bTest (xOp dGt (xCall L__law_take (xCons (xVar 0) (xCons (xC (.int 4)) xNil))) (xC (.int 0)))) (sSeq (sAsg (xC (.str "narrow")) (gN 7))
    (sSeq (sIf (bNot (bTest (xVar 3))) (sAsg (xCall L__law_of (xCons (xVar 0) (xCons (xLst (xCons (xC (.str "narrow")) (xCons (xC (.str "wide")) (xCons (xC (.str "wide")) (xCons (xC (.str "both")) (xCons (xC (.str "both")) (xCons (xC (.str "both")) (xCons (xC (.str "narrow first")) (xCons (xC (.str "wide first")) xNil))))))))) xNil))) (gN 7)) sNx)
    (sSeq (sIf (bTest (xOp (dInS false) (xVar 7) (xTup (xCons (xC (.str "narrow first")) (xCons (xC (.str "wide first")) xNil))))) (sSeq (sAsg (xIf (bTest (xOp dGt (xOp dIxLo (xVar 4) (xC (.int 0))) (xC (.int 0)))) (xVar 7) (xC (.str "both"))) (gN 7))
    (sSetLo 4 (xC (.int 0)) (xOp dSub (xOp dIxLo (xVar 4) (xC (.int 0))) (xC (.int 1))))) sNx)
    (sSeq (sAsg (xLc (iTp (xVar 2)) (gN 10) (bTest (xOp dNe (xOp dIxT (xVar 10) (xC (.int 0))) (xVar 6))) (xOp dIxT (xVar 10) (xC (.int 0))) [10]) (gN 8))
    (sSeq (sAsg (xCall L__law_of (xCons (xVar 0) (xCons (xLst (xCons (xC (.str "refuse")) (xCons (xC (.str "refuse")) (xCons (xC (.str "cut")) (xCons (xC (.str "empty")) xNil))))) xNil))) (gN 9))
    (sAppLo (xVar 5) (xCons (xTup (xCons (xVar 6) (xCons (xVar 7) (xCons (xVar 9) (xCons (xCall L__law_of (xCons (xVar 0) (xCons (xOp dCatL (xLst (xCons (xC (.str "")) (xCons (xC (.str "")) (xCons (xC (.str "")) xNil)))) (xVar 8)) xNil))) (xCons (xCall L__law_of (xCons (xVar 0) (xCons (xLst (xCons (xC (.int 0)) (xCons (xC (.int 1)) (xCons (xC (.int 2)) (xCons (xC (.int 3)) (xCons (xC (.int 5)) (xCons (xC (.int 99)) xNil))))))) xNil))) xNil)))))) xNil))))))) sNx))
    (sRet (xCB dTupleLo (xCons (xVar 5) xNil)))))
abbrev s__law_editions : Stmt := (top 64)
abbrev N__law_editions : List Str := ["_law_pot", "_law_columns", "_law_left", "_law_found", "_law_number", "_law_sight", "_law_reads_here"]
abbrev P__law_editions : List Str := ["_law_pot", "_law_columns", "_law_left"]
theorem sc__law_editions : FnScope N__law_editions P__law_editions (defScope s__law_editions) := ⟨rfl, rfl, rfl, by decide +kernel, rfl, by decide +kernel, by decide +kernel⟩
def L__law_editions : List Dat → M Dat := runD N__law_editions.length (sSeq (sAsg (xNewLo (xLst xNil)) (gN 3))
    (sSeq (sFor (iRg1 (xCons (xCall L__law_of (xCons (xVar 0) (xCons (xLst (xCons (xC (.int 1)) (xCons (xC (.int 2)) (xCons (xC (.int 2)) (xCons (xC (.int 3)) xNil))))) xNil))) xNil)) (gN 4) (sSeq (sAsg (xCall L__law_of (xCons (xVar 0) (xCons (xIf (bTest (xOp dEq (xVar 4) (xC (.int 0)))) (xLst (xCons (xC (.str "narrow")) (xCons (xC (.str "narrow")) (xCons (xC (.str "narrow")) (xCons (xC (.str "wide")) xNil))))) (xLst (xCons (xC (.str "narrow")) (xCons (xC (.str "wide")) (xCons (xC (.str "wide")) xNil))))) xNil))) (gN 5))
    (sSeq (sAsg (xCall L__law_reads (xCons (xVar 0) (xCons (xVar 1) (xCons (xOp dEq (xVar 4) (xC (.int 0))) (xCons (xVar 5) xNil))))) (gN 6))
    (sAppLo (xVar 3) (xCons (xTup (xCons (xVar 5) (xCons (xVar 6) (xCons (xCall L__law_writes (xCons (xVar 0) (xCons (xVar 1) (xCons (xVar 6) (xCons (xOp dEq (xVar 4) (xC (.int 0))) (xCons (xVar 2) xNil)))))) xNil)))) xNil)))))
    (sRet (xCB dTupleLo (xCons (xVar 3) xNil)))))
abbrev s__law_world : Stmt := (top 65)
abbrev N__law_world : List Str := ["_law_pot", "_law_kinds", "_law_narrow", "_law_wide", "_law_columns", "_law_left", "_law_programs", "_law_name"]
abbrev P__law_world : List Str := ["_law_pot"]
theorem sc__law_world : FnScope N__law_world P__law_world (defScope s__law_world) := ⟨rfl, rfl, rfl, by decide +kernel, rfl, by decide +kernel, by decide +kernel⟩
def L__law_world : List Dat → M Dat := runD N__law_world.length (sSeq (sAsg (xLst (xCons (xTup (xCons (xTup (xCons (xC (.int 0)) (xCons (xC (.int 15)) xNil))) (xCons (xTup (xCons (xC (.int 0)) (xCons (xC (.int 99)) xNil))) xNil))) (xCons (xTup (xCons (xTup (xCons (xC (.int 0)) (xCons (xC (.int 255)) xNil))) (xCons (xTup (xCons (xC (.int 0)) (xCons (xC (.int 65535)) xNil))) xNil))) (xCons (xTup (xCons (xTup (xCons (xUn dNeg (xC (.int 8))) (xCons (xC (.int 20)) xNil))) (xCons (xTup (xCons (xUn dNeg (xC (.int 8))) (xCons (xC (.int 400)) xNil))) xNil))) (xCons (xTup (xCons (xTup (xCons (xUn dNeg (xC (.int 128))) (xCons (xC (.int 127)) xNil))) (xCons (xTup (xCons (xUn dNeg (xC (.int 32768))) (xCons (xC (.int 32767)) xNil))) xNil))) xNil))))) (gN 1))
    (sSeq (sAsg (xCall L__law_of (xCons (xVar 0) (xCons (xOp dCatL (xVar 1) (xLst (xCons (xTup (xCons (xTup (xCons (xC (.int 0)) (xCons (xC (.int 15)) xNil))) (xCons (xTup (xCons (xC (.int 0)) (xCons (xC (.int 99)) xNil))) xNil))) (xCons (xTup (xCons (xTup (xCons (xC (.int 0)) (xCons (xC (.int 999)) xNil))) (xCons (xTup (xCons (xC (.int 0)) (xCons (xC (.int 99999999999999999)) xNil))) xNil))) xNil)))) xNil))) (gT 2 (gCo (gN 2) (gCo (gN 3) gNl))))
    (sSeq (sAsg (xCall L__law_some_names (xCons (xVar 0) (xCons (xCall L__law_of (xCons (xVar 0) (xCons (xLst (xCons (xC (.int 1)) (xCons (xC (.int 1)) (xCons (xC (.int 1)) (xCons (xC (.int 2)) (xCons (xC (.int 2)) (xCons (xC (.int 3)) xNil))))))) xNil))) xNil))) (gN 4))
    (sSeq (sAsg (xNewLo (xLst (xCons (xC (.int 2)) xNil))) (gN 5))
    (sSeq (sAsg (xNewLo (xLst xNil)) (gN 6))
    (sSeq (sFor (iLst (xCall L__law_some_names (xCons (xVar 0) (xCons (xCall L__law_of (xCons (xVar 0) (xCons (xLst (xCons (xC (.int 1)) (xCons (xC (.int 1)) (xCons (xC (.int 1)) (xCons (xC (.int 2)) (xCons (xC (.int 2)) (xCons (xC (.int 3)) xNil))))))) xNil))) xNil)))) (gN 7) (sAppLo (xVar 6) (xCons (xTup (xCons (xVar 7) (xCons (xCall L__law_editions (xCons (xVar 0) (xCons (xVar 4) (xCons (xVar 5) xNil)))) xNil))) xNil)))
    (sRet (xDisp [((xC (.str "narrow")), (xVar 2)), ((xC (.str "wide")), (xVar 3)), ((xC (.str "columns")), (xCB dTuple (xCons (xVar 4) xNil))), ((xC (.str "programs")), (xCB dTupleLo (xCons (xVar 6) xNil)))]))))))))
abbrev s__law_made : Stmt := (top 66)
abbrev N__law_made : List Str := ["_law_world_here", "_law_narrow", "_law_wide"]
abbrev P__law_made : List Str := ["_law_world_here"]
theorem sc__law_made : FnScope N__law_made P__law_made (defScope s__law_made) := ⟨rfl, rfl, rfl, by decide +kernel, rfl, by decide +kernel, by decide +kernel⟩
def L__law_made : List Dat → M Dat := runD N__law_made.length (sSeq (sPar 1 2 (xCons (xDGet (xVar 0) (xC (.str "narrow"))) (xCons (xDGet (xVar 0) (xC (.str "wide"))) xNil)))
    (sRet (xCall (callF (mkNew "World" L_World___init__)) (xCons (xCall (callF (mkNew "Kind" L_Kind___init__)) (xCons (xOp dIxT (xVar 1) (xC (.int 0))) (xCons (xOp dIxT (xVar 1) (xC (.int 1))) xNil))) (xCons (xCall (callF (mkNew "Kind" L_Kind___init__)) (xCons (xOp dIxT (xVar 2) (xC (.int 0))) (xCons (xOp dIxT (xVar 2) (xC (.int 1))) xNil))) (xCons (xDGet (xVar 0) (xC (.str "columns"))) (xCons (xDGet (xVar 0) (xC (.str "programs"))) xNil)))))))
abbrev s__law_is_fit : Stmt := (top 67)
abbrev N__law_is_fit : List Str := ["_law_world_here", "_law_first", "_law_last", "_law_low", "_law_high", "_law_small", "_law_great"]
abbrev P__law_is_fit : List Str := ["_law_world_here", "_law_first", "_law_last"]
theorem sc__law_is_fit : FnScope N__law_is_fit P__law_is_fit (defScope s__law_is_fit) := ⟨rfl, rfl, rfl, by decide +kernel, rfl, by decide +kernel, by decide +kernel⟩
def L__law_is_fit : List Dat → M Dat := runD N__law_is_fit.length (sSeq (sAsg (xDGet (xVar 0) (xC (.str "narrow"))) (gT 2 (gCo (gN 3) (gCo (gN 4) gNl))))
    (sSeq (sIf (bNot (bTest (xChain3 dLe dLe dLe (xVar 3) (xVar 1) (xVar 2) (xOp dIxT (xDGet (xVar 0) (xC (.str "wide"))) (xC (.int 1)))))) (sRet (xC (.bl false))) sNx)
    (sSeq (sAsg (xOp dAdd (xOp dSub (xCB dMin (xCons (xCB dInt (xCons (xVar 2) xNil)) (xCons (xCB dInt (xCons (xVar 4) xNil)) xNil))) (xVar 1)) (xC (.int 1))) (gN 5))
    (sSeq (sAsg (xOp dAdd (xOp dSub (xVar 2) (xCB dMax (xCons (xCB dInt (xCons (xVar 1) xNil)) (xCons (xOp dAdd (xVar 4) (xC (.int 1))) xNil)))) (xC (.int 1))) (gN 6))
    (sRet (xAnd (xOr (xOp dLe (xVar 5) (xC (.int 0))) (xOp dGe (xVar 5) (xC (.int 16)))) (xOr (xOp dLe (xVar 6) (xC (.int 0))) (xOp dGe (xVar 6) (xC (.int 16))))))))))
abbrev s__law_span : Stmt := (top 68)
abbrev N__law_span : List Str := ["_law_pot", "_law_world_here", "_law_low", "_law_high", "_law_some", "_law_span_here"]
abbrev P__law_span : List Str := ["_law_pot", "_law_world_here"]
theorem sc__law_span : FnScope N__law_span P__law_span (defScope s__law_span) := ⟨rfl, rfl, rfl, by decide +kernel, rfl, by decide +kernel, by decide +kernel⟩
def L__law_span : List Dat → M Dat := runD N__law_span.length (sSeq (sAsg (xDGet (xVar 1) (xC (.str "narrow"))) (gT 2 (gCo (gN 2) (gCo (gN 3) gNl))))
    (sSeq (sAsg (xLst (xCons (xTup (xCons (xVar 2) (xCons (xVar 3) xNil))) (xCons (xTup (xCons (xVar 2) (xCons (xVar 3) xNil))) (xCons (xTup (xCons (xVar 2) (xCons (xOp dAdd (xVar 2) (xC (.int 15))) xNil))) (xCons (xTup (xCons (xOp dAdd (xVar 2) (xC (.int 3))) (xCons (xOp dSub (xVar 3) (xC (.int 2))) xNil))) (xCons (xTup (xCons (xOp dSub (xVar 3) (xC (.int 15))) (xCons (xVar 3) xNil))) (xCons (xTup (xCons (xVar 2) (xCons (xOp dAdd (xVar 3) (xC (.int 16))) xNil))) xNil))))))) (gN 4))
    (sSeq (sAsg (xOp dCatL (xVar 4) (xLst (xCons (xTup (xCons (xVar 2) (xCons (xOp dAdd (xVar 3) (xC (.int 40))) xNil))) (xCons (xTup (xCons (xOp dAdd (xVar 3) (xC (.int 1))) (xCons (xOp dAdd (xVar 3) (xC (.int 16))) xNil))) (xCons (xTup (xCons (xOp dAdd (xVar 2) (xC (.int 1))) (xCons (xOp dAdd (xVar 2) (xC (.int 17))) xNil))) (xCons (xTup (xCons (xVar 2) (xCons (xOp dIxT (xDGet (xVar 1) (xC (.str "wide"))) (xC (.int 1))) xNil))) xNil)))))) (gN 4))
    (sRet (xCall L__law_of (xCons (xVar 0) (xCons (xLc (iLst (xVar 4)) (gN 5) (bTest (xCall L__law_is_fit (xCons (xVar 1) (xCons (xOp dIxT (xVar 5) (xC (.int 0))) (xCons (xOp dIxT (xVar 5) (xC (.int 1))) xNil))))) (xVar 5) [5]) xNil)))))))
abbrev s__law_first_state : Stmt := (top 69)
abbrev N__law_first_state : List Str := ["_law_world_here", "_law_span_here", "_law_name", "_law_editions_here", "_law_column"]
abbrev P__law_first_state : List Str := ["_law_world_here", "_law_span_here"]
theorem sc__law_first_state : FnScope N__law_first_state P__law_first_state (defScope s__law_first_state) := ⟨rfl, rfl, rfl, by decide +kernel, rfl, by decide +kernel, by decide +kernel⟩
def L__law_first_state : List Dat → M Dat := runD N__law_first_state.length (sRet (xDisp [((xC (.str "world")), (xVar 0)), ((xC (.str "running")), (xCB dDictP (xCons (xLc (iTp (xDGet (xVar 0) (xC (.str "programs")))) (gT 2 (gCo (gN 2) (gCo (gN 3) gNl))) bYes (xTup (xCons (xVar 2) (xCons (xTup (xCons (xC (.int 0)) xNil)) xNil))) [2, 3]) xNil))), ((xC (.str "sides")), (xCB dDictP (xCons (xLc (iTp (xDGet (xVar 0) (xC (.str "columns")))) (gN 4) bYes (xTup (xCons (xVar 4) (xCons (xC (.str "narrow")) xNil))) [4]) xNil))), ((xC (.str "mirrors")), xDic0), ((xC (.str "long")), (xTup xNil)), ((xC (.str "first")), (xOp dIxT (xVar 1) (xC (.int 0)))), ((xC (.str "last")), (xOp dIxT (xVar 1) (xC (.int 1)))), ((xC (.str "lasts")), (xTup (xCons (xOp dIxT (xVar 1) (xC (.int 1))) xNil)))]))
abbrev s__law_column_steps : Stmt := (top 70)
abbrev N__law_column_steps : List Str := ["_law_pot", "_law_column", "_law_rule", "_law_manner", "_law_some"]
abbrev P__law_column_steps : List Str := ["_law_pot", "_law_column"]
theorem sc__law_column_steps : FnScope N__law_column_steps P__law_column_steps (defScope s__law_column_steps) := ⟨rfl, rfl, rfl, by decide +kernel, rfl, by decide +kernel, by decide +kernel⟩
def L__law_column_steps : List Dat → M Dat := runD N__law_column_steps.length (sSeq (sPar 2 3 (xCons (xCall L__law_of (xCons (xVar 0) (xCons (xLst (xCons (xC (.str "refuse")) (xCons (xC (.str "cut")) (xCons (xC (.str "empty")) xNil)))) xNil))) (xCons (xCall L__law_of (xCons (xVar 0) (xCons (xLst (xCons (xC (.str "anew")) (xCons (xC (.str "empty")) xNil))) xNil))) xNil)))
    (sSeq (sAsg (xLst (xCons (xTup (xCons (xC (.str "add")) (xCons (xVar 1) xNil))) (xCons (xTup (xCons (xC (.str "up")) (xCons (xVar 1) xNil))) (xCons (xTup (xCons (xC (.str "down")) (xCons (xVar 1) (xCons (xVar 2) xNil)))) (xCons (xTup (xCons (xC (.str "fill")) (xCons (xVar 1) (xCons (xVar 3) xNil)))) (xCons (xTup (xCons (xC (.str "no up")) (xCons (xVar 1) xNil))) xNil)))))) (gN 4))
    (sSeq (sAsg (xOp dCatL (xVar 4) (xLst (xCons (xTup (xCons (xC (.str "no down")) (xCons (xVar 1) xNil))) (xCons (xTup (xCons (xC (.str "fill back")) (xCons (xVar 1) (xCons (xVar 3) (xCons (xVar 2) xNil))))) (xCons (xTup (xCons (xC (.str "drop")) (xCons (xVar 1) (xCons (xC (.str "narrow")) xNil)))) xNil))))) (gN 4))
    (sRet (xOp dCatL (xVar 4) (xLst (xCons (xTup (xCons (xC (.str "drop")) (xCons (xVar 1) (xCons (xC (.str "wide")) xNil)))) xNil)))))))
abbrev s__law_span_steps : Stmt := (top 71)
abbrev N__law_span_steps : List Str := ["_law_pot", "_law_state", "_law_high", "_law_last", "_law_first", "_law_most", "_law_some", "_law_purges"]
abbrev P__law_span_steps : List Str := ["_law_pot", "_law_state"]
theorem sc__law_span_steps : FnScope N__law_span_steps P__law_span_steps (defScope s__law_span_steps) := ⟨rfl, rfl, rfl, by decide +kernel, rfl, by decide +kernel, by decide +kernel⟩
def L__law_span_steps : List Dat → M Dat := runD N__law_span_steps.length (sSeq (sPar3 2 3 4 (xCons (xOp dIxT (xDGet (xDGet (xVar 1) (xC (.str "world"))) (xC (.str "narrow"))) (xC (.int 1))) (xCons (xDGet (xVar 1) (xC (.str "last"))) (xCons (xDGet (xVar 1) (xC (.str "first"))) xNil))))
    (sSeq (sAsg (xOp dIxT (xDGet (xDGet (xVar 1) (xC (.str "world"))) (xC (.str "wide"))) (xC (.int 1))) (gN 5))
    (sSeq (sAsg (xLst (xCons (xOp dAdd (xVar 3) (xC (.int 1))) (xCons (xOp dAdd (xVar 2) (xC (.int 15))) (xCons (xOp dAdd (xVar 2) (xC (.int 16))) (xCons (xOp dAdd (xVar 3) (xC (.int 16))) (xCons (xVar 5) (xCons (xOp dAdd (xOp dAdd (xVar 3) (xC (.int 1))) (xCall L__law_take (xCons (xVar 0) (xCons (xC (.int 60)) xNil)))) (xCons (xOp dAdd (xVar 5) (xC (.int 1))) xNil)))))))) (gN 6))
    (sSeq (sAsg (xLst (xCons (xOp dAdd (xVar 4) (xC (.int 1))) (xCons (xOp dSub (xVar 2) (xC (.int 15))) (xCons (xOp dSub (xVar 2) (xC (.int 14))) (xCons (xOp dAdd (xVar 2) (xC (.int 1))) (xCons (xVar 3) (xCons (xOp dSub (xVar 3) (xC (.int 15))) (xCons (xOp dSub (xVar 3) (xC (.int 16))) (xCons (xOp dAdd (xOp dAdd (xVar 4) (xC (.int 1))) (xCall L__law_take (xCons (xVar 0) (xCons (xC (.int 30)) xNil)))) xNil))))))))) (gN 7))
    (sRet (xLst (xCons (xTup (xCons (xC (.str "grow")) (xCons (xCall L__law_of (xCons (xVar 0) (xCons (xVar 6) xNil))) xNil))) (xCons (xTup (xCons (xC (.str "purge")) (xCons (xCall L__law_of (xCons (xVar 0) (xCons (xVar 7) xNil))) xNil))) xNil))))))))
abbrev s__law_menu : Stmt := (top 72)
abbrev N__law_menu : List Str := ["_law_pot", "_law_state", "_law_column", "_law_name", "_law_editions_here"]
abbrev P__law_menu : List Str := ["_law_pot", "_law_state"]
theorem sc__law_menu : FnScope N__law_menu P__law_menu (defScope s__law_menu) := ⟨rfl, rfl, rfl, by decide +kernel, rfl, by decide +kernel, by decide +kernel⟩
def L__law_menu : List Dat → M Dat := runD N__law_menu.length (sSeq (sAsg (xCall L__law_of (xCons (xVar 0) (xCons (xCB dList (xCons (xDGet (xDGet (xVar 1) (xC (.str "world"))) (xC (.str "columns"))) xNil)) xNil))) (gN 2))
    (sSeq (sAsg (xCall L__law_of (xCons (xVar 0) (xCons (xLc (iTp (xDGet (xDGet (xVar 1) (xC (.str "world"))) (xC (.str "programs")))) (gT 2 (gCo (gN 3) (gCo (gN 4) gNl))) bYes (xVar 3) [3, 4]) xNil))) (gN 3))
    (sRet (xOp dCatL (xOp dCatL (xCall L__law_column_steps (xCons (xVar 0) (xCons (xVar 2) xNil))) (xLst (xCons (xTup (xCons (xC (.str "release")) (xCons (xVar 3) xNil))) (xCons (xTup (xCons (xC (.str "withdraw")) (xCons (xVar 3) xNil))) xNil)))) (xCall L__law_span_steps (xCons (xVar 0) (xCons (xVar 1) xNil)))))))
abbrev s__law_odd : Stmt := (top 73)
abbrev N__law_odd : List Str := ["_law_pot", "_law_value", "_law_some", "_law_at", "_law_part"]
abbrev P__law_odd : List Str := ["_law_pot", "_law_value"]
theorem sc__law_odd : FnScope N__law_odd P__law_odd (defScope s__law_odd) := ⟨rfl, rfl, rfl, by decide +kernel, rfl, by decide +kernel, by decide +kernel⟩
def L__law_odd : List Dat → M Dat := runD N__law_odd.length (sSeq (sAsg (xLst (xCons (xC .non) (xCons (xC (.bl true)) (xCons (xC (.int 0)) (xCons (xUn dNeg (xC (.int 1))) (xCons (xC (.str "")) (xCons (xC (.str "id")) (xCons (xTup xNil) (xCons (xLst xNil) (xCons xDic0 (xCons (xTup (xCons (xTup xNil) xNil)) (xCons (xOp dPow (xC (.int 10)) (xC (.int 15))) (xCons (xCB dList (xCons (xVar 1) xNil)) (xCons (xOp dCatT (xVar 1) (xTup (xCons (xC (.int 0)) xNil))) (xCons (jSl dCutT (xVar 1) oNone (oSome (xUn dNeg (xC (.int 1))))) (xCons (xTup (xCons (xVar 1) xNil)) xNil)))))))))))))))) (gN 2))
    (sSeq (sIf (bTest (xOp (dEqD true) (xVar 1) (xTup xNil))) (sSeq (sAsg (xCall L__law_take (xCons (xVar 0) (xCons (xCB dLen (xCons (xVar 1) xNil)) xNil))) (gN 3))
    (sAsg (xOp dCatL (xVar 2) (xLc (iTp (xTup (xCons (xC .non) (xCons (xC (.bl true)) (xCons (xC (.int 3)) (xCons (xC (.str "x")) (xCons (xC (.str "")) (xCons (xTup xNil) (xCons (xLst xNil) (xCons (xVar 1) xNil)))))))))) (gN 4) bYes (xOp dCatT (xOp dCatT (jSl dCutT (xVar 1) oNone (oSome (xVar 3))) (xTup (xCons (xVar 4) xNil))) (jSl dCutT (xVar 1) (oSome (xOp dAdd (xVar 3) (xC (.int 1)))) oNone)) [4])) (gN 2))) sNx)
    (sRet (xCall L__law_of (xCons (xVar 0) (xCons (xVar 2) xNil))))))
abbrev s__law_fits : Stmt := (top 74)
abbrev N__law_fits : List Str := ["_law_world_here", "_law_sort", "_law_part", "_law_names", "_law_some", "_law_name", "_law_editions_here"]
abbrev P__law_fits : List Str := ["_law_world_here", "_law_sort", "_law_part"]
theorem sc__law_fits : FnScope N__law_fits P__law_fits (defScope s__law_fits) := ⟨rfl, rfl, rfl, by decide +kernel, rfl, by decide +kernel, by decide +kernel⟩
def L__law_fits : List Dat → M Dat := runD N__law_fits.length (sSeq (sIf (bTest (xOp dEq (xVar 1) (xC (.str "number")))) (sRet (xAnd (xCB dIsi (xCons (xVar 2) (xCons (xC (.ty "int")) xNil))) (xNot (xCB dIsi (xCons (xVar 2) (xCons (xC (.ty "bool")) xNil)))))) sNx)
    (sSeq (sAsg (xLc (iTp (xDGet (xVar 0) (xC (.str "programs")))) (gT 2 (gCo (gN 5) (gCo (gN 6) gNl))) bYes (xVar 5) [5, 6]) (gN 3))
    (sSeq (sAsg (xDisp [((xC (.str "column")), (xCB dList (xCons (xDGet (xVar 0) (xC (.str "columns"))) xNil))), ((xC (.str "program")), (xVar 3)), ((xC (.str "side")), (xLst (xCons (xC (.str "narrow")) (xCons (xC (.str "wide")) xNil)))), ((xC (.str "rule")), (xLst (xCons (xC (.str "cut")) (xCons (xC (.str "empty")) (xCons (xC (.str "refuse")) xNil))))), ((xC (.str "manner")), (xLst (xCons (xC (.str "anew")) (xCons (xC (.str "empty")) xNil))))]) (gN 4))
    (sRet (xAnd (xCB dIsi (xCons (xVar 2) (xCons (xC (.ty "str")) xNil))) (xOp (dInS false) (xVar 2) (xDGet (xVar 4) (xVar 1))))))))
abbrev s__law_is_step : Stmt := (top 75)
abbrev N__law_is_step : List Str := ["_law_world_here", "_law_value", "_law_forms", "_law_sort", "_law_part"]
abbrev P__law_is_step : List Str := ["_law_world_here", "_law_value"]
theorem sc__law_is_step : FnScope N__law_is_step P__law_is_step (defScope s__law_is_step) := ⟨rfl, rfl, rfl, by decide +kernel, rfl, by decide +kernel, by decide +kernel⟩
def L__law_is_step : List Dat → M Dat := runD N__law_is_step.length (sSeq (sAsg (xDisp [((xC (.str "add")), (xLst (xCons (xC (.str "column")) xNil))), ((xC (.str "drop")), (xLst (xCons (xC (.str "column")) (xCons (xC (.str "side")) xNil)))), ((xC (.str "up")), (xLst (xCons (xC (.str "column")) xNil))), ((xC (.str "no up")), (xLst (xCons (xC (.str "column")) xNil))), ((xC (.str "down")), (xLst (xCons (xC (.str "column")) (xCons (xC (.str "rule")) xNil)))), ((xC (.str "no down")), (xLst (xCons (xC (.str "column")) xNil))), ((xC (.str "fill")), (xLst (xCons (xC (.str "column")) (xCons (xC (.str "manner")) xNil)))), ((xC (.str "fill back")), (xLst (xCons (xC (.str "column")) (xCons (xC (.str "manner")) (xCons (xC (.str "rule")) xNil))))), ((xC (.str "release")), (xLst (xCons (xC (.str "program")) xNil))), ((xC (.str "withdraw")), (xLst (xCons (xC (.str "program")) xNil))), ((xC (.str "grow")), (xLst (xCons (xC (.str "number")) xNil))), ((xC (.str "purge")), (xLst (xCons (xC (.str "number")) xNil)))]) (gN 2))
    (sSeq (sIf (bOr (bNot (bTest (xCB dIsi (xCons (xVar 1) (xCons (xC (.ty "tuple")) xNil))))) (bOr (bTest (xOp dEq (xCB dLen (xCons (xVar 1) xNil)) (xC (.int 0)))) (bNot (bTest (xCB dIsi (xCons (xOp dIxT (xVar 1) (xC (.int 0))) (xCons (xC (.ty "str")) xNil))))))) (sRet (xC (.bl false))) sNx)
    (sSeq (sIf (bOr (bTest (xDIn true (xOp dIxT (xVar 1) (xC (.int 0))) (xVar 2))) (bTest (xOp dNe (xCB dLen (xCons (xVar 1) xNil)) (xOp dAdd (xCB dLen (xCons (xDGet (xVar 2) (xOp dIxT (xVar 1) (xC (.int 0)))) xNil)) (xC (.int 1)))))) (sRet (xC (.bl false))) sNx)
    (sRet (xCB dAll (xCons (xLc (iZipM (xCons (xDGet (xVar 2) (xOp dIxT (xVar 1) (xC (.int 0)))) (xCons (jSl dCutT (xVar 1) (oSome (xC (.int 1))) oNone) xNil))) (gT 2 (gCo (gN 3) (gCo (gN 4) gNl))) bYes (xCall L__law_fits (xCons (xVar 0) (xCons (xVar 3) (xCons (xVar 4) xNil)))) [3, 4]) xNil))))))
abbrev s__law_values : Stmt := (top 76)
abbrev N__law_values : List Str := ["_law_pot", "_law_world_here", "_law_state", "_law_some", "_law_step", "_law_words", "_law_parts", "_law_made_here", "_law_k"]
abbrev P__law_values : List Str := ["_law_pot", "_law_world_here"]
theorem sc__law_values : FnScope N__law_values P__law_values (defScope s__law_values) := ⟨rfl, rfl, rfl, by decide +kernel, rfl, by decide +kernel, by decide +kernel⟩
def L__law_values : List Dat → M Dat := runD N__law_values.length (sSeq (sAsg (xCall L__law_first_state (xCons (xVar 1) (xCons (xCall L__law_span (xCons (xVar 0) (xCons (xVar 1) xNil))) xNil))) (gN 2))
    (sSeq (sAsg (xOp dCatL (xCall L__law_menu (xCons (xVar 0) (xCons (xVar 2) xNil))) (xCall L__law_menu (xCons (xVar 0) (xCons (xVar 2) xNil)))) (gN 3))
    (sSeq (sAsg (xCall L__law_of (xCons (xVar 0) (xCons (xVar 3) xNil))) (gN 4))
    (sSeq (sAsg (xLst (xCons (xC (.str "add")) (xCons (xC (.str "drop")) (xCons (xC (.str "up")) (xCons (xC (.str "no up")) (xCons (xC (.str "down")) (xCons (xC (.str "no down")) (xCons (xC (.str "fill")) (xCons (xC (.str "fill back")) (xCons (xC (.str "release")) (xCons (xC (.str "withdraw")) (xCons (xC (.str "grow")) xNil)))))))))))) (gN 5))
    (sSeq (sAsg (xLst (xCons (xC (.str "id")) (xCons (xC (.str "nobody")) (xCons (xC (.str "anew")) (xCons (xC (.str "cut")) (xCons (xC (.str "narrow")) (xCons (xC (.str "both")) (xCons (xC (.int 5)) (xCons (xUn dNeg (xC (.int 3))) (xCons (xC (.bl true)) (xCons (xC .non) (xCons (xC (.str "Add")) (xCons (xTup xNil) (xCons (xOp dPow (xC (.int 10)) (xC (.int 17))) xNil)))))))))))))) (gN 6))
    (sSeq (sAsg (xCB dTuple (xCons (xLc (iRg1 (xCons (xCall L__law_take (xCons (xVar 0) (xCons (xC (.int 4)) xNil))) xNil)) (gN 8) bYes (xCall L__law_of (xCons (xVar 0) (xCons (xOp dCatL (xVar 6) (xLst (xCons (xOp dIxT (xVar 4) (xC (.int 1))) xNil))) xNil))) [8]) xNil)) (gN 7))
    (sSeq (sAsg (xOp dCatL (xVar 3) (xLst (xCons (xOp dCatT (xTup (xCons (xCall L__law_of (xCons (xVar 0) (xCons (xOp dCatL (xVar 5) (xLst (xCons (xC (.str "purge")) xNil))) xNil))) xNil)) (xVar 7)) (xCons (xCall L__law_odd (xCons (xVar 0) (xCons (xVar 4) xNil))) (xCons (xCall L__law_odd (xCons (xVar 0) (xCons (xVar 4) xNil))) xNil))))) (gN 3))
    (sRet (xOp dCatL (xVar 3) (xLst (xCons (xOp dCatT (xVar 4) (xTup (xCons (xOp dIxT (xVar 4) (xUn dNeg (xC (.int 1)))) xNil))) xNil)))))))))))
abbrev s__law_right : Stmt := (top 77)
abbrev N__law_right : List Str := ["_law_pot", "_law_world_here", "_law_made_here", "_law_value", "_law_before", "_law_found"]
abbrev P__law_right : List Str := ["_law_pot"]
theorem sc__law_right : FnScope N__law_right P__law_right (defScope s__law_right) := ⟨rfl, rfl, rfl, by decide +kernel, rfl, by decide +kernel, by decide +kernel⟩
def L__law_right : List Dat → M Dat := runD N__law_right.length (sSeq (sAsg (xCall L__law_world (xCons (xVar 0) xNil)) (gN 1))
    (sSeq (sAsg (xCall (callF L__law_made) (xCons (xVar 1) xNil)) (gN 2))
    (sSeq (sFor (iLst (xCall L__law_values (xCons (xVar 0) (xCons (xVar 1) xNil)))) (gN 3) (sSeq (sAsg (xCB dRepr2 (xCons (xVar 3) xNil)) (gN 4))
    (sSeq (sAsg (xCall (callF L_is_step) (xCons (xVar 2) (xCons (xVar 3) xNil))) (gN 5))
    (sIf (bOr (bNot (bTest (xCB dIsi (xCons (xVar 5) (xCons (xC (.ty "bool")) xNil))))) (bOr (bTest (xOp dNe (xVar 5) (xCall (callF L__law_is_step) (xCons (xVar 1) (xCons (xVar 3) xNil))))) (bTest (xOp dNe (xCB dRepr2 (xCons (xVar 3) xNil)) (xVar 4))))) (sRet (xC (.bl false))) sNx))))
    (sRet (xC (.bl true))))))
abbrev s_law : Stmt := (top 78)
abbrev N_law : List Str := ["_law_script", "_law_k", "_law_pot", "_law_turn"]
abbrev P_law : List Str := ["_law_script"]
theorem sc_law : FnScope N_law P_law (defScope s_law) := ⟨rfl, rfl, rfl, by decide +kernel, rfl, by decide +kernel, by decide +kernel⟩
def L_law : List Dat → M Dat := runD N_law.length (sSeq (sFor (iRg1 (xCons (xCB dMax (xCons (xC (.int 1)) (xCons (xCB dMin (xCons (xC (.int 2)) (xCons (xCB dLen (xCons (xVar 0) xNil)) xNil))) xNil))) xNil)) (gN 1) (sSeq (sAsg (xCall L__law_pot_of (xCons (xVar 0) (xCons (xVar 1) xNil))) (gN 2))
    (sIf (bNot (bTest (xCB dAll (xCons (xLc (iRg1 (xCons (xC (.int 6)) xNil)) (gN 3) bYes (xCall L__law_right (xCons (xVar 2) xNil)) [3]) xNil)))) (sRet (xC (.bl false))) sNx)))
    (sRet (xC (.bl true))))
end Zd

namespace Zd
open PySem PySem.Spec PyProof.Rows L2 Zg
section
variable {P : Program} {w : World} {K : PySem.W.Frag} {mg : Str → Option Value} {base : Heap} {κ : String → Addr} {CW : Addr} {n_MOST_LETTERS n_LEAST_NARROW n_MOST_PACE n_MOST_IN_TWO_EVENTS : Tok} {a_SIDES a_RULES a_MANNERS a_DEEDS a_READ_SIDES a_HOWS a_IN_TWO_EVENTS a_STEP_FORMS : Addr}
theorem ok_is_integer {f : Addr} {fd : FuncData} (F : Fun K "is_integer" "is_integer" s_is_integer f fd) (T : TxD2 mg) : FnOk P w K mg base CX0 1 f fd P_is_integer (spD ⟨K, κ⟩ 1 L_is_integer) := by
  exact F.ok sc_is_integer (fun vs H Q E h => h.1) (fun cdv A outer s H vs Q E hr h => ⟨_, (pss_one (ps_ret (pe_and (pe_callB call_isi (by rfl) T.n_isinstance (by decide +kernel) (pa_cons (pv 0) (pa_cons (pe_bltn (v := .ty "int") (by rfl) T.n_int (by decide +kernel) rfl) pa_nil))) (pe_one (pe_not (pe_callB call_isi (by rfl) T.n_isinstance (by decide +kernel) (pa_cons (pv 0) (pa_cons (pe_bltn (v := .ty "bool") (by rfl) T.n_bool (by decide +kernel) rfl) pa_nil)))))))), ok_body (Z := ⟨K, κ⟩) (O := []) (js_ret (JD.w (j_andV (j_cb c_isi (ja_consW (JD.w (j_var nin)) (ja_cons j_ty ja_nil))) (j_notV (j_cb c_isi (ja_consW (JD.w (j_var nin)) (ja_cons j_ty ja_nil))))))) (fun _ m => absurd m List.not_mem_nil) h⟩)
theorem ok_is_between {f : Addr} {fd : FuncData} (F : Fun K "is_between" "is_between" s_is_between f fd) (T : TxD2 mg) (cL_is_integer : Cal P w K mg base 1 "is_integer" P_is_integer (spD ⟨K, κ⟩ 1 L_is_integer)) : FnOk P w K mg base CX0 2 f fd P_is_between (spD ⟨K, κ⟩ 3 L_is_between) := by
  obtain ⟨f_is_integer, fd_is_integer, G_is_integer, b_is_integer, g_is_integer, k_is_integer⟩ := cL_is_integer
  exact F.ok sc_is_between (fun vs H Q E h => h.1) (fun cdv A outer s H vs Q E hr h => ⟨_, (pss_one (ps_ret (pe_and (pe_call G_is_integer (hr.mono (by decide)) rfl g_is_integer k_is_integer b_is_integer .nil pass0 (pa_cons (pv 0) pa_nil)) (pe_one (pe_chain op_le op_le (pv 1) (pv 0) (pv 2)))))), ok_body (Z := ⟨K, κ⟩) (O := []) (js_ret (JD.w (j_andV (j_callV via_id (ja_cons (j_var nin) ja_nil) (len_cons (fun _ _ _ _ h => len_nil h))) (j_chain r_le r_le (j_var nin) (j_var nin) (j_var nin))))) (fun _ m => absurd m List.not_mem_nil) h⟩)
theorem ok_is_name {f : Addr} {fd : FuncData} (F : Fun K "is_name" "is_name" s_is_name f fd) (T : TxD2 mg) (TN : TxN mg n_MOST_LETTERS n_LEAST_NARROW n_MOST_PACE n_MOST_IN_TWO_EVENTS) : FnOk P w K mg base CX0 1 f fd P_is_name (spD ⟨K, κ⟩ 1 L_is_name) := by
  exact F.ok sc_is_name (fun vs H Q E h => h.1) (fun cdv A outer s H vs Q E hr h => ⟨_, (pss_cons (ps_if (PW.pt (pw_or (pt_not (pt_val (pe_callB call_isi (by rfl) T.n_isinstance (by decide +kernel) (pa_cons (pv 0) (pa_cons (pe_bltn (v := .ty "str") (by rfl) T.n_str (by decide +kernel) rfl) pa_nil))))) (pw_or1 (pt_cmpR op_gt (pe_callB call_len_str (by rfl) T.n_len (by decide +kernel) (pa_cons (pv 0) pa_nil)) (pe_glob (v := .int 8) rfl TN.g_MOST_LETTERS ⟨_, rfl⟩) (nomark _))))) (pss_one (ps_ret pe_bl)) pss_nil)
      (pss_one (ps_ret (pe_and (pe_m0 PySem.F.slot_str_isascii PySem.F.type_str_isascii mt_isascii (pv 0)) (pe_and (pe_m0 PySem.F.slot_str_isalpha PySem.F.type_str_isalpha mt_isalpha (pv 0)) (pe_one (pe_m0 PySem.F.slot_str_islower PySem.F.type_str_islower mt_islower (pv 0)))))))), ok_body (Z := ⟨K, κ⟩) (O := []) (js_seq (js_if (jb_or (jb_not (jb_B (j_cb c_isi (ja_consW (JD.w (j_var nin)) (ja_cons j_ty ja_nil))))) (jb_test (j_op upD r_gt (j_cb c_lenS (ja_cons (j_var nin) ja_nil)) j_int))) (js_ret (JD.w j_bl)) js_next)
      (js_ret (JD.w (j_andV (j_m0 (fun _ _ _ h => m0_isascii h) (j_var nin)) (j_andV (j_m0 (fun _ _ _ h => m0_isalpha h) (j_var nin)) (j_m0 (fun _ _ _ h => m0_islower h) (j_var nin))))))) (fun _ m => absurd m List.not_mem_nil) h⟩)
theorem ok_is_tuple_of {f : Addr} {fd : FuncData} (F : Fun K "is_tuple_of" "is_tuple_of" s_is_tuple_of f fd) (T : TxD2 mg) : FnOk P w K mg base CX0 1 f fd P_is_tuple_of (spD ⟨K, κ⟩ 3 L_is_tuple_of) := by
  exact F.ok sc_is_tuple_of (fun vs H Q E h => h.1) (fun cdv A outer s H vs Q E hr h => ⟨_, (pss_one (ps_ret (pe_and (pe_callB call_isi (by rfl) T.n_isinstance (by decide +kernel) (pa_cons (pv 0) (pa_cons (pe_bltn (v := .ty "tuple") (by rfl) T.n_tuple (by decide +kernel) rfl) pa_nil))) (pe_one (pe_chain op_le op_le (pv 1) (pe_callB call_len_seq (by rfl) T.n_len (by decide +kernel) (pa_cons (pv 0) pa_nil)) (pv 2)))))), ok_body (Z := ⟨K, κ⟩) (O := []) (js_ret (JD.w (j_andV (j_cb c_isi (ja_consW (JD.w (j_var nin)) (ja_cons j_ty ja_nil))) (j_chain r_le r_le (j_var nin) (j_cb c_len (ja_consW (JD.w (j_var nin)) ja_nil)) (j_var nin))))) (fun _ m => absurd m List.not_mem_nil) h⟩)
theorem ok_is_ascending {f : Addr} {fd : FuncData} (F : Fun K "is_ascending" "is_ascending" s_is_ascending f fd) (T : TxD2 mg) : FnOk P w K mg base CX0 1 f fd P_is_ascending (spD ⟨K, κ⟩ 1 L_is_ascending) := by
  exact F.ok sc_is_ascending (fun vs H Q E h => h.1) (fun cdv A outer s H vs Q E hr h => ⟨_, (pss_one (ps_ret (pe_callB (cr_all rfl) (by rfl) T.n_all (by decide +kernel) (pa_cons (pe_lc (own := [("one", 1), ("other", 2)]) (g := (gTup _ 2 (gCons (gName 1) (gCons (gName 2) gNil)))) (tt := tYes) rfl sc_is_ascending.nd (pi_zipG rfl T.n_zip (pa_cons (pv 0) (pa_cons (pe_slice sl_list (pv 0) (po_some pe_int) po_none) pa_nil))) (blkOk_by (N := N_is_ascending) (sc := defScope s_is_ascending) (by decide +kernel)) (fun _ _ _ _ _ => (pg_tup rfl (pgs_cons (pg_name (i := 1) sc_is_ascending.nd rfl (Or.inl rfl)) (pgs_cons (pg_name (i := 2) sc_is_ascending.nd rfl (Or.inl rfl)) pgs_nil)))) (fun _ _ _ _ _ => pts_nil) (fun _ _ _ _ _ => (pe_cmpR op_lt_str (pv 1) (pv 2) (nomark _)))) pa_nil)))), ok_body (Z := ⟨K, κ⟩) (O := []) (js_ret (JD.w (j_cb c_all (ja_consW (JD.w (j_lc (ji_zipG xCo (ja_cons (j_var nin) (ja_cons (j_slL (JD.w (j_var nin)) (jo_some j_int) jo_none) ja_nil))) (jg_tup (jg_cons (jg_name nin (fun w e => by cases e; decide)) (jg_cons (jg_name nin (fun w e => by cases e; decide)) jg_nil))) jb_yes (j_op upD r_ltS (j_var nin) (j_var nin)))) ja_nil)))) (fun _ m => absurd m List.not_mem_nil) h⟩)
theorem ok_is_ascendingT {f : Addr} {fd : FuncData} (F : Fun K "is_ascending" "is_ascending" s_is_ascending f fd) (T : TxD2 mg) : FnOk P w K mg base CX0 1 f fd P_is_ascending (spD ⟨K, κ⟩ 1 L_is_ascendingT) := by
  exact F.ok sc_is_ascending (fun vs H Q E h => h.1) (fun cdv A outer s H vs Q E hr h => ⟨_, (pss_one (ps_ret (pe_callB (cr_all rfl) (by rfl) T.n_all (by decide +kernel) (pa_cons (pe_lc (own := [("one", 1), ("other", 2)]) (g := (gTup _ 2 (gCons (gName 1) (gCons (gName 2) gNil)))) (tt := tYes) rfl sc_is_ascending.nd (pi_zipG rfl T.n_zip (pa_cons (pv 0) (pa_cons (pe_slice sl_tupA (pv 0) (po_some pe_int) po_none) pa_nil))) (blkOk_by (N := N_is_ascending) (sc := defScope s_is_ascending) (by decide +kernel)) (fun _ _ _ _ _ => (pg_tup rfl (pgs_cons (pg_name (i := 1) sc_is_ascending.nd rfl (Or.inl rfl)) (pgs_cons (pg_name (i := 2) sc_is_ascending.nd rfl (Or.inl rfl)) pgs_nil)))) (fun _ _ _ _ _ => pts_nil) (fun _ _ _ _ _ => (pe_cmpR op_lt_str (pv 1) (pv 2) (nomark _)))) pa_nil)))), ok_body (Z := ⟨K, κ⟩) (O := []) (js_ret (JD.w (j_cb c_all (ja_consW (JD.w (j_lc (ji_zipG xCo (ja_cons (j_var nin) (ja_cons (j_slT (j_var nin) (jo_some j_int) jo_none) ja_nil))) (jg_tup (jg_cons (jg_name nin (fun w e => by cases e; decide)) (jg_cons (jg_name nin (fun w e => by cases e; decide)) jg_nil))) jb_yes (j_op upD r_ltS (j_var nin) (j_var nin)))) ja_nil)))) (fun _ m => absurd m List.not_mem_nil) h⟩)
theorem ok_is_count {f : Addr} {fd : FuncData} (F : Fun K "is_count" "is_count" s_is_count f fd) (T : TxD2 mg) (cL_is_integer : Cal P w K mg base 1 "is_integer" P_is_integer (spD ⟨K, κ⟩ 1 L_is_integer)) : FnOk P w K mg base CX0 2 f fd P_is_count (spD ⟨K, κ⟩ 1 L_is_count) := by
  obtain ⟨f_is_integer, fd_is_integer, G_is_integer, b_is_integer, g_is_integer, k_is_integer⟩ := cL_is_integer
  exact F.ok sc_is_count (fun vs H Q E h => h.1) (fun cdv A outer s H vs Q E hr h => ⟨_, (pss_one (ps_ret (pe_and (pe_call G_is_integer (hr.mono (by decide)) rfl g_is_integer k_is_integer b_is_integer .nil pass0 (pa_cons (pv 0) pa_nil)) (pe_one (pe_cmpR op_ge (pv 0) pe_int (nomark _)))))), ok_body (Z := ⟨K, κ⟩) (O := []) (js_ret (JD.w (j_andV (j_callV via_id (ja_cons (j_var nin) ja_nil) (len_cons (fun _ _ _ _ h => len_nil h))) (j_op upD r_ge (j_var nin) j_int)))) (fun _ m => absurd m List.not_mem_nil) h⟩)
theorem ok_is_plain_part {f : Addr} {fd : FuncData} (F : Fun K "is_plain_part" "is_plain_part" s_is_plain_part f fd) (T : TxD2 mg) (GT_SIDES : GTup K mg "SIDES" a_SIDES ["narrow", "wide"]) (GT_RULES : GTup K mg "RULES" a_RULES ["cut", "empty", "refuse"]) (GT_MANNERS : GTup K mg "MANNERS" a_MANNERS ["empty", "anew"]) (cL_is_integer : Cal P w K mg base 1 "is_integer" P_is_integer (spD ⟨K, κ⟩ 1 L_is_integer)) (cL_is_count : Cal P w K mg base 2 "is_count" P_is_count (spD ⟨K, κ⟩ 1 L_is_count)) : FnOk P w K mg base CX0 3 f fd P_is_plain_part (spD ⟨K, κ⟩ 2 L_is_plain_part) := by
  obtain ⟨f_is_integer, fd_is_integer, G_is_integer, b_is_integer, g_is_integer, k_is_integer⟩ := cL_is_integer
  obtain ⟨f_is_count, fd_is_count, G_is_count, b_is_count, g_is_count, k_is_count⟩ := cL_is_count
  exact F.ok sc_is_plain_part (fun vs H Q E h => h.1) (fun cdv A outer s H vs Q E hr h => ⟨_, (pss_cons (ps_if (pt_cmpR op_eq (pv 0) pe_str (nomark _)) (pss_one (ps_ret (pe_cmpR (op_inS (neg := false) (Z := ⟨K, κ⟩) (hu70 hr) rfl) (pv 1) (pe_glob (v := .ref a_SIDES) rfl GT_SIDES.g rfl) rfl))) pss_nil)
      (pss_cons (ps_if (pt_cmpR op_eq (pv 0) pe_str (nomark _)) (pss_one (ps_ret (pe_cmpR (op_inS (neg := false) (Z := ⟨K, κ⟩) (hu70 hr) rfl) (pv 1) (pe_glob (v := .ref a_RULES) rfl GT_RULES.g rfl) rfl))) pss_nil)
      (pss_cons (ps_if (pt_cmpR op_eq (pv 0) pe_str (nomark _)) (pss_one (ps_ret (pe_cmpR (op_inS (neg := false) (Z := ⟨K, κ⟩) (hu70 hr) rfl) (pv 1) (pe_glob (v := .ref a_MANNERS) rfl GT_MANNERS.g rfl) rfl))) pss_nil)
      (pss_cons (ps_if (pt_cmpR op_eq (pv 0) pe_str (nomark _)) (pss_one (ps_ret (pe_call G_is_integer (hr.mono (by decide)) rfl g_is_integer k_is_integer b_is_integer .nil pass0 (pa_cons (pv 1) pa_nil)))) pss_nil)
      (pss_one (ps_ret (pe_call G_is_count (hr.mono (by decide)) rfl g_is_count k_is_count b_is_count .nil pass0 (pa_cons (pv 1) pa_nil)))))))), ok_body (Z := ⟨K, κ⟩) (O := []) (js_seq (js_if (jb_test (j_op upD r_eq (j_var nin) j_str)) (js_ret (JD.w (j_op upD (r_inS (neg := false)) (j_var nin) (JD.w (j_c GT_SIDES.isD))))) js_next)
      (js_seq (js_if (jb_test (j_op upD r_eq (j_var nin) j_str)) (js_ret (JD.w (j_op upD (r_inS (neg := false)) (j_var nin) (JD.w (j_c GT_RULES.isD))))) js_next)
      (js_seq (js_if (jb_test (j_op upD r_eq (j_var nin) j_str)) (js_ret (JD.w (j_op upD (r_inS (neg := false)) (j_var nin) (JD.w (j_c GT_MANNERS.isD))))) js_next)
      (js_seq (js_if (jb_test (j_op upD r_eq (j_var nin) j_str)) (js_ret (JD.w (j_callV via_id (ja_cons (j_var nin) ja_nil) (len_cons (fun _ _ _ _ h => len_nil h))))) js_next)
      (js_ret (JD.w (j_callV via_id (ja_cons (j_var nin) ja_nil) (len_cons (fun _ _ _ _ h => len_nil h))))))))) (fun _ m => absurd m List.not_mem_nil) h⟩)
theorem ok__first_word {f : Addr} {fd : FuncData} (F : Fun K "_first_word" "_first_word" s__first_word f fd) (T : TxD2 mg) : FnOk P w K mg base CX0 1 f fd P__first_word (spD ⟨K, κ⟩ 1 L__first_word) := by
  exact F.ok sc__first_word (fun vs H Q E h => h.1) (fun cdv A outer s H vs Q E hr h => ⟨_, (pss_cons (ps_if (PW.pt (pw_or (pt_not (pt_val (pe_callB call_isi (by rfl) T.n_isinstance (by decide +kernel) (pa_cons (pv 0) (pa_cons (pe_bltn (v := .ty "tuple") (by rfl) T.n_tuple (by decide +kernel) rfl) pa_nil))))) (pw_or (pt_not (pt_truth (pv 0) (fun _ => rfl))) (pw_or1 (pt_not (pt_val (pe_callB call_isi (by rfl) T.n_isinstance (by decide +kernel) (pa_cons (pe_ix ix_tup (pv 0) pe_int (fun _ _ => rfl)) (pa_cons (pe_bltn (v := .ty "str") (by rfl) T.n_str (by decide +kernel) rfl) pa_nil))))))))) (pss_one (ps_ret pe_str)) pss_nil)
      (pss_one (ps_ret (pe_ix ix_tup (pv 0) pe_int (fun _ _ => rfl))))), ok_body (Z := ⟨K, κ⟩) (O := []) (js_seq (js_if (jb_or (jb_not (jb_B (j_cb c_isi (ja_consW (JD.w (j_var nin)) (ja_cons j_ty ja_nil))))) (jb_or (jb_not (jb_tru (j_var nin))) (jb_not (jb_B (j_cb c_isi (ja_consW (JD.w (j_op upD r_ixT (j_var nin) j_int)) (ja_cons j_ty ja_nil))))))) (js_ret (JD.w j_str)) js_next)
      (js_ret (JD.w (j_op upD r_ixT (j_var nin) j_int)))) (fun _ m => absurd m List.not_mem_nil) h⟩)
theorem ok_step_form {f : Addr} {fd : FuncData} (F : Fun K "step_form" "step_form" s_step_form f fd) (T : TxD2 mg) (KT_STEP_FORMS : GTab K w mg "STEP_FORMS" a_STEP_FORMS t_STEP_FORMS) (cL__first_word : Cal P w K mg base 1 "_first_word" P__first_word (spD ⟨K, κ⟩ 1 L__first_word)) : FnOk P w K mg base CX0 2 f fd P_step_form (spD ⟨K, κ⟩ 1 L_step_form) := by
  obtain ⟨f__first_word, fd__first_word, G__first_word, b__first_word, g__first_word, k__first_word⟩ := cL__first_word
  exact F.ok sc_step_form (fun vs H Q E h => h.1) (fun cdv A outer s H vs Q E hr h => ⟨_, (pss_one (ps_ret (pe_kget KT_STEP_FORMS.kt (pe_glob (v := .ref a_STEP_FORMS) rfl KT_STEP_FORMS.g rfl) (pe_call G__first_word (hr.mono (by decide)) rfl g__first_word k__first_word b__first_word .nil pass0 (pa_cons (pv 0) pa_nil)) ⟨rfl, rfl, rfl, rfl⟩))), ok_body (Z := ⟨K, κ⟩) (O := []) (js_ret (JD.w (j_kget KT_STEP_FORMS.tab (j_callV via_id (ja_cons (j_var nin) ja_nil) (len_cons (fun _ _ _ _ h => len_nil h)))))) (fun _ m => absurd m List.not_mem_nil) h⟩)
theorem ok_editions_of {f : Addr} {fd : FuncData} (F : Fun K "editions_of" "editions_of" s_editions_of f fd) (T : TxD2 mg) (CT_World : ClsI K mg ⟨K, κ⟩ "World" "World" ["narrow", "wide", "columns", "programs"]) : FnOk P w K mg base CX0 1 f fd P_editions_of (spD ⟨K, κ⟩ 2 L_editions_of) := by
  exact F.ok sc_editions_of (fun vs H Q E h => h.1) (fun cdv A outer s H vs Q E hr h => ⟨_, (pss_cons (ps_for PassesOwn.never rfl (pi_tup (pe_fld (pv 0) rfl)) (pg_tup rfl (pgs_cons (pg_name (i := 2) sc_editions_of.nd rfl (Or.inl rfl)) (pgs_cons (pg_name (i := 3) sc_editions_of.nd rfl (Or.inl rfl)) pgs_nil))) (pss_one (ps_if (pt_cmpR (op_eqD hr.units) (pv 2) (pv 1) (nomark _)) (pss_one (ps_ret (pv 3))) pss_nil)))
      (pss_one (ps_ret (pe_tup pa_nil)))), ok_body (Z := ⟨K, κ⟩) (O := []) (js_seq (js_for (ji_tup xS (j_fldI CT_World.t (.tail _ (.tail _ (.tail _ (.head _)))) (j_var nin))) (jg_tup (jg_cons (jg_name nin nofun) (jg_cons (jg_name nin nofun) jg_nil))) (js_if (jb_test (j_op upW r_eqD (JD.w (j_var nin)) (JD.w (j_var nin)))) (js_ret (JD.w (j_var nin))) js_next))
      (js_ret (JD.w (j_tup ja_nil)))) (fun _ m => absurd m List.not_mem_nil) h⟩)
theorem ok_Kind___init__ {f : Addr} {fd : FuncData} (F : Fun K "__init__" "Kind.__init__" s_Kind___init__ f fd) (T : TxD2 mg) (cL_is_integer : Cal P w K mg base 1 "is_integer" P_is_integer (spD ⟨K, κ⟩ 1 L_is_integer)) (CT_Kind : ClsI K mg ⟨K, κ⟩ "Kind" "Kind" ["low", "high", "size"]) : FnOk P w K mg base CX0 2 f fd P_Kind___init__ (spD ⟨K, κ⟩ 3 L_Kind___init__) := by
  obtain ⟨f_is_integer, fd_is_integer, G_is_integer, b_is_integer, g_is_integer, k_is_integer⟩ := cL_is_integer
  exact F.ok sc_Kind___init__ (fun vs H Q E h => h.1) (fun cdv A outer s H vs Q E hr h => ⟨_, (pss_cons (ps_if (PW.pt (pw_or (pt_not (pt_val (pe_call G_is_integer (hr.mono (by decide)) rfl g_is_integer k_is_integer b_is_integer .nil pass0 (pa_cons (pv 1) pa_nil)))) (pw_or (pt_not (pt_val (pe_call G_is_integer (hr.mono (by decide)) rfl g_is_integer k_is_integer b_is_integer .nil pass0 (pa_cons (pv 2) pa_nil)))) (pw_or1 (pt_not (pt_chain op_le op_le (pv 1) pe_int (pv 2))))))) (pss_one ps_never) pss_nil)
      (pss_cons (ps_fld (pv 0) (pv 1) rfl)
      (pss_cons (ps_fld (pv 0) (pv 2) rfl)
      (pss_one (ps_fld (pv 0) (pe_op op_add (pe_op op_sub (pv 2) (pv 1)) pe_int) rfl))))), ok_body (Z := ⟨K, κ⟩) (O := []) (js_seq (js_if (jb_or (jb_not (jb_B (j_callV via_id (ja_cons (j_var nin) ja_nil) (len_cons (fun _ _ _ _ h => len_nil h))))) (jb_or (jb_not (jb_B (j_callV via_id (ja_cons (j_var nin) ja_nil) (len_cons (fun _ _ _ _ h => len_nil h))))) (jb_not (jb_test (j_chain r_le r_le (j_var nin) j_int (j_var nin)))))) js_never js_next)
      (js_seq (js_setFL CT_Kind.t (.head _) (j_var nin) (j_var nin))
      (js_seq (js_setFL CT_Kind.t (.tail _ (.head _)) (j_var nin) (j_var nin))
      (js_setFL CT_Kind.t (.tail _ (.tail _ (.head _))) (j_var nin) (j_op upD r_add (j_op upD r_sub (j_var nin) (j_var nin)) j_int))))) (fun _ m => absurd m List.not_mem_nil) h⟩)
theorem ok_Kind___le__ {f : Addr} {fd : FuncData} (F : Fun K "__le__" "Kind.__le__" s_Kind___le__ f fd) (T : TxD2 mg) (CT_Kind : ClsI K mg ⟨K, κ⟩ "Kind" "Kind" ["low", "high", "size"]) : FnOk P w K mg base CX0 1 f fd P_Kind___le__ (spD ⟨K, κ⟩ 2 L_Kind___le__) := by
  exact F.ok sc_Kind___le__ (fun vs H Q E h => h.1) (fun cdv A outer s H vs Q E hr h => ⟨_, (pss_cons (ps_if (pt_not (pt_val (pe_callB call_isi (by rfl) T.n_isinstance (by decide +kernel) (pa_cons (pv 1) (pa_cons (pe_glob (v := .ref (κ "Kind")) rfl CT_Kind.g rfl) pa_nil))))) (pss_one ps_never) pss_nil)
      (pss_one (ps_ret (pe_and (pe_cmpR op_le (pe_fld (pv 1) rfl) (pe_fld (pv 0) rfl) (nomark _)) (pe_one (pe_cmpR op_le (pe_fld (pv 0) rfl) (pe_fld (pv 1) rfl) (nomark _))))))), ok_body (Z := ⟨K, κ⟩) (O := []) (js_seq (js_if (jb_not (jb_B (j_cb (c_isiI CT_Kind.i) (ja_cons (j_var nin) (ja_cons j_cls ja_nil))))) js_never js_next)
      (js_ret (JD.w (j_andV (j_op upD r_le (j_fldI CT_Kind.t (.head _) (j_var nin)) (j_fldI CT_Kind.t (.head _) (j_var nin))) (j_op upD r_le (j_fldI CT_Kind.t (.tail _ (.head _)) (j_var nin)) (j_fldI CT_Kind.t (.tail _ (.head _)) (j_var nin))))))) (fun _ m => absurd m List.not_mem_nil) h⟩)
theorem ok_Kind___eq__ {f : Addr} {fd : FuncData} (F : Fun K "__eq__" "Kind.__eq__" s_Kind___eq__ f fd) (T : TxD2 mg) (CT_Kind : ClsI K mg ⟨K, κ⟩ "Kind" "Kind" ["low", "high", "size"]) : FnOk P w K mg base CX0 1 f fd P_Kind___eq__ (spD ⟨K, κ⟩ 2 L_Kind___eq__) := by
  exact F.ok sc_Kind___eq__ (fun vs H Q E h => h.1) (fun cdv A outer s H vs Q E hr h => ⟨_, (pss_one (ps_ret (pe_and (pe_callB call_isi (by rfl) T.n_isinstance (by decide +kernel) (pa_cons (pv 1) (pa_cons (pe_glob (v := .ref (κ "Kind")) rfl CT_Kind.g rfl) pa_nil))) (pe_and (pe_cmpR op_eq (pe_fld (pv 0) rfl) (pe_fld (pv 1) rfl) (nomark _)) (pe_one (pe_cmpR op_eq (pe_fld (pv 0) rfl) (pe_fld (pv 1) rfl) (nomark _))))))), ok_body (Z := ⟨K, κ⟩) (O := []) (js_ret (JD.w (j_andV (j_cb (c_isiI CT_Kind.i) (ja_cons (j_var nin) (ja_cons j_cls ja_nil))) (j_andV (j_op upD r_eq (j_fldI CT_Kind.t (.head _) (j_var nin)) (j_fldI CT_Kind.t (.head _) (j_var nin))) (j_op upD r_eq (j_fldI CT_Kind.t (.tail _ (.head _)) (j_var nin)) (j_fldI CT_Kind.t (.tail _ (.head _)) (j_var nin))))))) (fun _ m => absurd m List.not_mem_nil) h⟩)
theorem ok_Kind___lt__ {f : Addr} {fd : FuncData} (F : Fun K "__lt__" "Kind.__lt__" s_Kind___lt__ f fd) (T : TxD2 mg) (CT_Kind : ClsI K mg ⟨K, κ⟩ "Kind" "Kind" ["low", "high", "size"]) (cL_Kind___le__ : MeI P w K mg base ⟨K, κ⟩ 1 "Kind" "__le__" P_Kind___le__ (spD ⟨K, κ⟩ 2 L_Kind___le__)) (cL_Kind___eq__ : MeI P w K mg base ⟨K, κ⟩ 1 "Kind" "__eq__" P_Kind___eq__ (spD ⟨K, κ⟩ 2 L_Kind___eq__)) : FnOk P w K mg base CX0 2 f fd P_Kind___lt__ (spD ⟨K, κ⟩ 2 L_Kind___lt__) := by
  obtain ⟨f_Kind___le__, fd_Kind___le__, M_Kind___le__, G_Kind___le__, b_Kind___le__⟩ := cL_Kind___le__
  obtain ⟨f_Kind___eq__, fd_Kind___eq__, M_Kind___eq__, G_Kind___eq__, b_Kind___eq__⟩ := cL_Kind___eq__
  exact F.ok sc_Kind___lt__ (fun vs H Q E h => h.1) (fun cdv A outer s H vs Q E hr h => ⟨_, (pss_cons (ps_if (pt_not (pt_val (pe_callB call_isi (by rfl) T.n_isinstance (by decide +kernel) (pa_cons (pv 1) (pa_cons (pe_glob (v := .ref (κ "Kind")) rfl CT_Kind.g rfl) pa_nil))))) (pss_one ps_never) pss_nil)
      (pss_one (ps_ret (pe_and (pe_cmpR (op_cmpI (fun _ _ => rfl) M_Kind___le__.at_ M_Kind___le__.fn G_Kind___le__ (hr.mono (by decide)) b_Kind___le__ pass0) (pv 0) (pv 1) (nomark _)) (pe_one (pe_not (pe_cmpR (op_cmpI (fun _ _ => rfl) M_Kind___eq__.at_ M_Kind___eq__.fn G_Kind___eq__ (hr.mono (by decide)) b_Kind___eq__ pass0) (pv 0) (pv 1) (nomark _)))))))), ok_body (Z := ⟨K, κ⟩) (O := []) (js_seq (js_if (jb_not (jb_B (j_cb (c_isiI CT_Kind.i) (ja_cons (j_var nin) (ja_cons j_cls ja_nil))))) js_never js_next)
      (js_ret (JD.w (j_andV (j_op upD (r_own2 via_id) (j_var nin) (j_var nin)) (j_notV (j_op upD (r_own2 via_id) (j_var nin) (j_var nin))))))) (fun _ m => absurd m List.not_mem_nil) h⟩)
theorem ok__are_kinds {f : Addr} {fd : FuncData} (F : Fun K "_are_kinds" "_are_kinds" s__are_kinds f fd) (T : TxD2 mg) (TN : TxN mg n_MOST_LETTERS n_LEAST_NARROW n_MOST_PACE n_MOST_IN_TWO_EVENTS) (CT_Kind : ClsI K mg ⟨K, κ⟩ "Kind" "Kind" ["low", "high", "size"]) (cL_Kind___lt__ : MeI P w K mg base ⟨K, κ⟩ 2 "Kind" "__lt__" P_Kind___lt__ (spD ⟨K, κ⟩ 2 L_Kind___lt__)) : FnOk P w K mg base CX0 3 f fd P__are_kinds (spD ⟨K, κ⟩ 2 L__are_kinds) := by
  obtain ⟨f_Kind___lt__, fd_Kind___lt__, M_Kind___lt__, G_Kind___lt__, b_Kind___lt__⟩ := cL_Kind___lt__
  exact F.ok sc__are_kinds (fun vs H Q E h => h.1) (fun cdv A outer s H vs Q E hr h => ⟨_, (pss_cons (ps_if (PW.pt (pw_or (pt_not (pt_val (pe_callB call_isi (by rfl) T.n_isinstance (by decide +kernel) (pa_cons (pv 0) (pa_cons (pe_glob (v := .ref (κ "Kind")) rfl CT_Kind.g rfl) pa_nil))))) (pw_or1 (pt_not (pt_val (pe_callB call_isi (by rfl) T.n_isinstance (by decide +kernel) (pa_cons (pv 1) (pa_cons (pe_glob (v := .ref (κ "Kind")) rfl CT_Kind.g rfl) pa_nil)))))))) (pss_one (ps_ret pe_bl)) pss_nil)
      (pss_one (ps_ret (pe_and (pe_cmpR (op_cmpI (fun _ _ => rfl) M_Kind___lt__.at_ M_Kind___lt__.fn G_Kind___lt__ (hr.mono (by decide)) b_Kind___lt__ pass0) (pv 0) (pv 1) (nomark _)) (pe_one (pe_cmpR op_ge (pe_fld (pv 0) rfl) (pe_glob (v := .int 16) rfl TN.g_LEAST_NARROW ⟨_, rfl⟩) (nomark _))))))), ok_body (Z := ⟨K, κ⟩) (O := []) (js_seq (js_if (jb_or (jb_not (jb_B (j_cb (c_isiI CT_Kind.i) (ja_cons (j_var nin) (ja_cons j_cls ja_nil))))) (jb_not (jb_B (j_cb (c_isiI CT_Kind.i) (ja_cons (j_var nin) (ja_cons j_cls ja_nil)))))) (js_ret (JD.w j_bl)) js_next)
      (js_ret (JD.w (j_andV (j_op upD (r_own2 via_id) (j_var nin) (j_var nin)) (j_op upD r_ge (j_fldI CT_Kind.t (.tail _ (.tail _ (.head _))) (j_var nin)) j_int))))) (fun _ m => absurd m List.not_mem_nil) h⟩)
theorem ok__are_columns {f : Addr} {fd : FuncData} (F : Fun K "_are_columns" "_are_columns" s__are_columns f fd) (T : TxD2 mg) (cL_is_tuple_of : Cal P w K mg base 1 "is_tuple_of" P_is_tuple_of (spD ⟨K, κ⟩ 3 L_is_tuple_of)) (cL_is_name : Cal P w K mg base 1 "is_name" P_is_name (spD ⟨K, κ⟩ 1 L_is_name)) (cL_is_ascendingT : Cal P w K mg base 1 "is_ascending" P_is_ascending (spD ⟨K, κ⟩ 1 L_is_ascendingT)) : FnOk P w K mg base CX0 2 f fd P__are_columns (spD ⟨K, κ⟩ 1 L__are_columns) := by
  obtain ⟨f_is_tuple_of, fd_is_tuple_of, G_is_tuple_of, b_is_tuple_of, g_is_tuple_of, k_is_tuple_of⟩ := cL_is_tuple_of
  obtain ⟨f_is_name, fd_is_name, G_is_name, b_is_name, g_is_name, k_is_name⟩ := cL_is_name
  obtain ⟨f_is_ascending, fd_is_ascending, G_is_ascending, b_is_ascending, g_is_ascending, k_is_ascending⟩ := cL_is_ascendingT
  exact F.ok sc__are_columns (fun vs H Q E h => h.1) (fun cdv A outer s H vs Q E hr h => ⟨_, (pss_cons (ps_if (PW.pt (pw_or (pt_not (pt_val (pe_call G_is_tuple_of (hr.mono (by decide)) rfl g_is_tuple_of k_is_tuple_of b_is_tuple_of .nil pass0 (pa_cons (pv 0) (pa_cons pe_int (pa_cons pe_int pa_nil)))))) (pw_or1 (pt_not (pt_val (pe_callB (cr_all rfl) (by rfl) T.n_all (by decide +kernel) (pa_cons (pe_lc (own := [("column", 1)]) (g := (gName 1)) (tt := tYes) rfl sc__are_columns.nd (pi_tup (pv 0)) (blkOk_by (N := N__are_columns) (sc := defScope s__are_columns) (by decide +kernel)) (fun _ _ _ _ _ => (pg_name (i := 1) sc__are_columns.nd rfl (Or.inl rfl))) (fun _ _ _ _ _ => pts_nil) (fun _ _ _ _ _ => (pe_call G_is_name (hr.mono (by decide)) rfl g_is_name k_is_name b_is_name .nil pass0 (pa_cons (pv 1) pa_nil)))) pa_nil))))))) (pss_one (ps_ret pe_bl)) pss_nil)
      (pss_one (ps_ret (pe_call G_is_ascending (hr.mono (by decide)) rfl g_is_ascending k_is_ascending b_is_ascending .nil pass0 (pa_cons (pv 0) pa_nil))))), ok_body (Z := ⟨K, κ⟩) (O := []) (js_seq (js_if (jb_or (jb_not (jb_B (j_callV via_id (ja_cons (j_var nin) (ja_cons j_int (ja_cons j_int ja_nil))) (len_cons (len_cons (len_cons (fun _ _ _ _ h => len_nil h))))))) (jb_not (jb_B (j_cb c_all (ja_consW (JD.w (j_lc (ji_tup xCo (j_var nin)) (jg_name nin (fun w e => by cases e; decide)) jb_yes (j_callV via_id (ja_cons (j_var nin) ja_nil) (len_cons (fun _ _ _ _ h => len_nil h))))) ja_nil))))) (js_ret (JD.w j_bl)) js_next)
      (js_ret (JD.w (j_callV via_id (ja_cons (j_var nin) ja_nil) (len_cons (fun _ _ _ _ h => len_nil h)))))) (fun _ m => absurd m List.not_mem_nil) h⟩)
theorem ok__are_rows {f : Addr} {fd : FuncData} (F : Fun K "_are_rows" "_are_rows" s__are_rows f fd) (T : TxD2 mg) (cL_is_tuple_of : Cal P w K mg base 1 "is_tuple_of" P_is_tuple_of (spD ⟨K, κ⟩ 3 L_is_tuple_of)) (cL_is_ascending : Cal P w K mg base 1 "is_ascending" P_is_ascending (spD ⟨K, κ⟩ 1 L_is_ascending)) : FnOk P w K mg base CX0 2 f fd P__are_rows (spD ⟨K, κ⟩ 3 L__are_rows) := by
  obtain ⟨f_is_tuple_of, fd_is_tuple_of, G_is_tuple_of, b_is_tuple_of, g_is_tuple_of, k_is_tuple_of⟩ := cL_is_tuple_of
  obtain ⟨f_is_ascending, fd_is_ascending, G_is_ascending, b_is_ascending, g_is_ascending, k_is_ascending⟩ := cL_is_ascending
  exact F.ok sc__are_rows (fun vs H Q E h => h.1) (fun cdv A outer s H vs Q E hr h => ⟨_, (pss_cons (ps_if (pt_not (pt_val (pe_callB call_isi (by rfl) T.n_isinstance (by decide +kernel) (pa_cons (pv 1) (pa_cons (pe_bltn (v := .ty "tuple") (by rfl) T.n_tuple (by decide +kernel) rfl) pa_nil))))) (pss_one (ps_ret pe_bl)) pss_nil)
      (pss_cons (ps_for PassesOwn.never rfl (pi_tup (pv 1)) (pg_name (i := 3) sc__are_rows.nd rfl (Or.inl rfl)) (pss_one (ps_if (PW.pt (pw_or (pt_not (pt_val (pe_call G_is_tuple_of (hr.mono (by decide)) rfl g_is_tuple_of k_is_tuple_of b_is_tuple_of .nil pass0 (pa_cons (pv 3) (pa_cons (pv 2) (pa_cons (pv 2) pa_nil)))))) (pw_or1 (pt_cmpR (op_inS (neg := true) (Z := ⟨K, κ⟩) (hu70 hr) rfl) (pe_ix ix_tup (pv 3) pe_int (fun _ _ => rfl)) (pv 0) rfl)))) (pss_one (ps_ret pe_bl)) pss_nil)))
      (pss_one (ps_ret (pe_call G_is_ascending (hr.mono (by decide)) rfl g_is_ascending k_is_ascending b_is_ascending .nil pass0 (pa_cons (pe_lc (own := [("row", 3)]) (g := (gName 3)) (tt := tYes) rfl sc__are_rows.nd (pi_tup (pv 1)) (blkOk_by (N := N__are_rows) (sc := defScope s__are_rows) (by decide +kernel)) (fun _ _ _ _ _ => (pg_name (i := 3) sc__are_rows.nd rfl (Or.inl rfl))) (fun _ _ _ _ _ => pts_nil) (fun _ _ _ _ _ => (pe_ix ix_tup (pv 3) pe_int (fun _ _ => rfl)))) pa_nil)))))), ok_body (Z := ⟨K, κ⟩) (O := []) (js_seq (js_if (jb_not (jb_B (j_cb c_isi (ja_consW (JD.w (j_var nin)) (ja_cons j_ty ja_nil))))) (js_ret (JD.w j_bl)) js_next)
      (js_seq (js_for (ji_tup xS (j_var nin)) (jg_name nin nofun) (js_if (jb_or (jb_not (jb_B (j_callV via_id (ja_cons (j_var nin) (ja_cons (j_var nin) (ja_cons (j_var nin) ja_nil))) (len_cons (len_cons (len_cons (fun _ _ _ _ h => len_nil h))))))) (jb_test (j_op upD (r_inS (neg := true)) (j_op upD r_ixT (j_var nin) j_int) (JD.w (j_var nin))))) (js_ret (JD.w j_bl)) js_next))
      (js_ret (JD.w (j_callV via_id (ja_cons (j_lc (ji_tup xCo (j_var nin)) (jg_name nin (fun w e => by cases e; decide)) jb_yes (j_op upD r_ixT (j_var nin) j_int)) ja_nil) (len_cons (fun _ _ _ _ h => len_nil h))))))) (fun _ m => absurd m List.not_mem_nil) h⟩)
theorem ok__is_read {f : Addr} {fd : FuncData} (F : Fun K "_is_read" "_is_read" s__is_read f fd) (T : TxD2 mg) (GT_DEEDS : GTup K mg "DEEDS" a_DEEDS ["match", "order", "show"]) (GT_READ_SIDES : GTup K mg "READ_SIDES" a_READ_SIDES ["narrow", "wide", "either"]) (cL_is_ascendingT : Cal P w K mg base 1 "is_ascending" P_is_ascending (spD ⟨K, κ⟩ 1 L_is_ascendingT)) : FnOk P w K mg base CX0 2 f fd P__is_read (spD ⟨K, κ⟩ 1 L__is_read) := by
  obtain ⟨f_is_ascending, fd_is_ascending, G_is_ascending, b_is_ascending, g_is_ascending, k_is_ascending⟩ := cL_is_ascendingT
  exact F.ok sc__is_read (fun vs H Q E h => h.1) (fun cdv A outer s H vs Q E hr h => ⟨_, (pss_cons (ps_asg (pv 0) (pg_tup rfl (pgs_cons (pg_name (i := 1) sc__is_read.nd rfl (Or.inl rfl)) (pgs_cons (pg_name (i := 2) sc__is_read.nd rfl (Or.inl rfl)) (pgs_cons (pg_name (i := 3) sc__is_read.nd rfl (Or.inl rfl)) pgs_nil)))))
      (pss_cons (ps_if (PW.pt (pw_or (pt_cmpR (op_inS (neg := true) (Z := ⟨K, κ⟩) (hu70 hr) rfl) (pv 2) (pe_glob (v := .ref a_READ_SIDES) rfl GT_READ_SIDES.g rfl) rfl) (pw_or1 (pt_not (pt_val (pe_callB call_isi (by rfl) T.n_isinstance (by decide +kernel) (pa_cons (pv 3) (pa_cons (pe_bltn (v := .ty "tuple") (by rfl) T.n_tuple (by decide +kernel) rfl) pa_nil)))))))) (pss_one (ps_ret pe_bl)) pss_nil)
      (pss_one (ps_ret (pe_and (pe_callB (cr_all rfl) (by rfl) T.n_all (by decide +kernel) (pa_cons (pe_lc (own := [("deed", 4)]) (g := (gName 4)) (tt := tYes) rfl sc__is_read.nd (pi_tup (pv 3)) (blkOk_by (N := N__is_read) (sc := defScope s__is_read) (by decide +kernel)) (fun _ _ _ _ _ => (pg_name (i := 4) sc__is_read.nd rfl (Or.inl rfl))) (fun _ _ _ _ _ => pts_nil) (fun _ _ _ _ _ => (pe_cmpR (op_inS (neg := false) (Z := ⟨K, κ⟩) (hu70 hr) rfl) (pv 4) (pe_glob (v := .ref a_DEEDS) rfl GT_DEEDS.g rfl) rfl))) pa_nil)) (pe_one (pe_call G_is_ascending (hr.mono (by decide)) rfl g_is_ascending k_is_ascending b_is_ascending .nil pass0 (pa_cons (pv 3) pa_nil)))))))), ok_body (Z := ⟨K, κ⟩) (O := []) (js_seq (js_asg (j_var nin) (jg_tup (jg_cons (jg_name nin nofun) (jg_cons (jg_name nin nofun) (jg_cons (jg_name nin nofun) jg_nil)))))
      (js_seq (js_if (jb_or (jb_test (j_op upD (r_inS (neg := true)) (j_var nin) (JD.w (j_c GT_READ_SIDES.isD)))) (jb_not (jb_B (j_cb c_isi (ja_consW (JD.w (j_var nin)) (ja_cons j_ty ja_nil)))))) (js_ret (JD.w j_bl)) js_next)
      (js_ret (JD.w (j_andV (j_cb c_all (ja_consW (JD.w (j_lc (ji_tup xCo (j_var nin)) (jg_name nin (fun w e => by cases e; decide)) jb_yes (j_op upD (r_inS (neg := false)) (j_var nin) (JD.w (j_c GT_DEEDS.isD))))) ja_nil)) (j_callV via_id (ja_cons (j_var nin) ja_nil) (len_cons (fun _ _ _ _ h => len_nil h)))))))) (fun _ m => absurd m List.not_mem_nil) h⟩)
theorem ok__is_write {f : Addr} {fd : FuncData} (F : Fun K "_is_write" "_is_write" s__is_write f fd) (T : TxD2 mg) (GT_RULES : GTup K mg "RULES" a_RULES ["cut", "empty", "refuse"]) (GT_HOWS : GTup K mg "HOWS" a_HOWS ["narrow", "wide", "both", "narrow first", "wide first"]) (TN : TxN mg n_MOST_LETTERS n_LEAST_NARROW n_MOST_PACE n_MOST_IN_TWO_EVENTS) (cL_is_between : Cal P w K mg base 2 "is_between" P_is_between (spD ⟨K, κ⟩ 3 L_is_between)) : FnOk P w K mg base CX0 3 f fd P__is_write (spD ⟨K, κ⟩ 2 L__is_write) := by
  obtain ⟨f_is_between, fd_is_between, G_is_between, b_is_between, g_is_between, k_is_between⟩ := cL_is_between
  exact F.ok sc__is_write (fun vs H Q E h => h.1) (fun cdv A outer s H vs Q E hr h => ⟨_, (pss_cons (ps_asg (pv 1) (pg_tup rfl (pgs_cons (pg_name (i := 2) sc__is_write.nd rfl (Or.inl rfl)) (pgs_cons (pg_name (i := 3) sc__is_write.nd rfl (Or.inl rfl)) (pgs_cons (pg_name (i := 4) sc__is_write.nd rfl (Or.inl rfl)) (pgs_cons (pg_name (i := 5) sc__is_write.nd rfl (Or.inl rfl)) (pgs_cons (pg_name (i := 6) sc__is_write.nd rfl (Or.inl rfl)) pgs_nil)))))))
      (pss_cons (ps_if (PW.pt (pw_or (pt_cmpR (op_inS (neg := true) (Z := ⟨K, κ⟩) (hu70 hr) rfl) (pv 3) (pe_glob (v := .ref a_HOWS) rfl GT_HOWS.g rfl) rfl) (pw_or (pt_cmpR (op_inS (neg := true) (Z := ⟨K, κ⟩) (hu70 hr) rfl) (pv 4) (pe_glob (v := .ref a_RULES) rfl GT_RULES.g rfl) rfl) (pw_or1 (pt_not (pt_val (pe_call G_is_between (hr.mono (by decide)) rfl g_is_between k_is_between b_is_between .nil pass0 (pa_cons (pv 6) (pa_cons pe_int (pa_cons (pe_glob (v := .int 99) rfl TN.g_MOST_PACE ⟨_, rfl⟩) pa_nil)))))))))) (pss_one (ps_ret pe_bl)) pss_nil)
      (pss_one (ps_ret (pe_or (pe_cmpR op_eq (pv 5) pe_str (nomark _)) (pe_one (pe_and (pe_cmpR (op_inS (neg := false) (Z := ⟨K, κ⟩) (hu70 hr) rfl) (pv 5) (pv 0) rfl) (pe_one (pe_cmpR op_ne (pv 5) (pv 2) (nomark _)))))))))), ok_body (Z := ⟨K, κ⟩) (O := []) (js_seq (js_asg (j_var nin) (jg_tup (jg_cons (jg_name nin nofun) (jg_cons (jg_name nin nofun) (jg_cons (jg_name nin nofun) (jg_cons (jg_name nin nofun) (jg_cons (jg_name nin nofun) jg_nil)))))))
      (js_seq (js_if (jb_or (jb_test (j_op upD (r_inS (neg := true)) (j_var nin) (JD.w (j_c GT_HOWS.isD)))) (jb_or (jb_test (j_op upD (r_inS (neg := true)) (j_var nin) (JD.w (j_c GT_RULES.isD)))) (jb_not (jb_B (j_callV via_id (ja_cons (j_var nin) (ja_cons j_int (ja_cons j_int ja_nil))) (len_cons (len_cons (len_cons (fun _ _ _ _ h => len_nil h))))))))) (js_ret (JD.w j_bl)) js_next)
      (js_ret (JD.w (j_orV (j_op upD r_eq (j_var nin) j_str) (j_andV (j_op upD (r_inS (neg := false)) (j_var nin) (JD.w (j_var nin))) (j_op upD r_ne (j_var nin) (j_var nin)))))))) (fun _ m => absurd m List.not_mem_nil) h⟩)
theorem ok__is_edition {f : Addr} {fd : FuncData} (F : Fun K "_is_edition" "_is_edition" s__is_edition f fd) (T : TxD2 mg) (GT_SIDES : GTup K mg "SIDES" a_SIDES ["narrow", "wide"]) (cL_is_tuple_of : Cal P w K mg base 1 "is_tuple_of" P_is_tuple_of (spD ⟨K, κ⟩ 3 L_is_tuple_of)) (cL__are_rows : Cal P w K mg base 2 "_are_rows" P__are_rows (spD ⟨K, κ⟩ 3 L__are_rows)) (cL__is_read : Cal P w K mg base 2 "_is_read" P__is_read (spD ⟨K, κ⟩ 1 L__is_read)) (cL__is_write : Cal P w K mg base 3 "_is_write" P__is_write (spD ⟨K, κ⟩ 2 L__is_write)) : FnOk P w K mg base CX0 4 f fd P__is_edition (spD ⟨K, κ⟩ 2 L__is_edition) := by
  obtain ⟨f_is_tuple_of, fd_is_tuple_of, G_is_tuple_of, b_is_tuple_of, g_is_tuple_of, k_is_tuple_of⟩ := cL_is_tuple_of
  obtain ⟨f__are_rows, fd__are_rows, G__are_rows, b__are_rows, g__are_rows, k__are_rows⟩ := cL__are_rows
  obtain ⟨f__is_read, fd__is_read, G__is_read, b__is_read, g__is_read, k__is_read⟩ := cL__is_read
  obtain ⟨f__is_write, fd__is_write, G__is_write, b__is_write, g__is_write, k__is_write⟩ := cL__is_write
  exact F.ok sc__is_edition (fun vs H Q E h => h.1) (fun cdv A outer s H vs Q E hr h => ⟨_, (pss_cons (ps_if (pt_not (pt_val (pe_call G_is_tuple_of (hr.mono (by decide)) rfl g_is_tuple_of k_is_tuple_of b_is_tuple_of .nil pass0 (pa_cons (pv 1) (pa_cons pe_int (pa_cons pe_int pa_nil)))))) (pss_one (ps_ret pe_bl)) pss_nil)
      (pss_cons (ps_asg (pv 1) (pg_tup rfl (pgs_cons (pg_name (i := 2) sc__is_edition.nd rfl (Or.inl rfl)) (pgs_cons (pg_name (i := 3) sc__is_edition.nd rfl (Or.inl rfl)) (pgs_cons (pg_name (i := 4) sc__is_edition.nd rfl (Or.inl rfl)) pgs_nil)))))
      (pss_cons (ps_if (PW.pt (pw_or (pt_cmpR (op_inS (neg := true) (Z := ⟨K, κ⟩) (hu70 hr) rfl) (pv 2) (pe_glob (v := .ref a_SIDES) rfl GT_SIDES.g rfl) rfl) (pw_or (pt_not (pt_val (pe_call G__are_rows (hr.mono (by decide)) rfl g__are_rows k__are_rows b__are_rows .nil pass0 (pa_cons (pv 0) (pa_cons (pv 3) (pa_cons pe_int pa_nil)))))) (pw_or1 (pt_not (pt_val (pe_call G__are_rows (hr.mono (by decide)) rfl g__are_rows k__are_rows b__are_rows .nil pass0 (pa_cons (pv 0) (pa_cons (pv 4) (pa_cons pe_int pa_nil)))))))))) (pss_one (ps_ret pe_bl)) pss_nil)
      (pss_cons (ps_if (pt_not (pt_val (pe_callB (cr_all rfl) (by rfl) T.n_all (by decide +kernel) (pa_cons (pe_lc (own := [("row", 6)]) (g := (gName 6)) (tt := tYes) rfl sc__is_edition.nd (pi_tup (pv 3)) (blkOk_by (N := N__is_edition) (sc := defScope s__is_edition) (by decide +kernel)) (fun _ _ _ _ _ => (pg_name (i := 6) sc__is_edition.nd rfl (Or.inl rfl))) (fun _ _ _ _ _ => pts_nil) (fun _ _ _ _ _ => (pe_call G__is_read (hr.mono (by decide)) rfl g__is_read k__is_read b__is_read .nil pass0 (pa_cons (pv 6) pa_nil)))) pa_nil)))) (pss_one (ps_ret pe_bl)) pss_nil)
      (pss_cons (ps_set (i := 5) sc__is_edition.nd rfl (Or.inr rfl) (pe_lc (own := [("row", 6)]) (g := (gName 6)) (tt := tYes) rfl sc__is_edition.nd (pi_tup (pv 3)) (blkOk_by (N := N__is_edition) (sc := defScope s__is_edition) (by decide +kernel)) (fun _ _ _ _ _ => (pg_name (i := 6) sc__is_edition.nd rfl (Or.inl rfl))) (fun _ _ _ _ _ => pts_nil) (fun _ _ _ _ _ => (pe_ix ix_tup (pv 6) pe_int (fun _ _ => rfl)))))
      (pss_one (ps_ret (pe_callB (cr_all rfl) (by rfl) T.n_all (by decide +kernel) (pa_cons (pe_lc (own := [("row", 6)]) (g := (gName 6)) (tt := tYes) rfl sc__is_edition.nd (pi_tup (pv 4)) (blkOk_by (N := N__is_edition) (sc := defScope s__is_edition) (by decide +kernel)) (fun _ _ _ _ _ => (pg_name (i := 6) sc__is_edition.nd rfl (Or.inl rfl))) (fun _ _ _ _ _ => pts_nil) (fun _ _ _ _ _ => (pe_call G__is_write (hr.mono (by decide)) rfl g__is_write k__is_write b__is_write .nil pass0 (pa_cons (pv 5) (pa_cons (pv 6) pa_nil))))) pa_nil))))))))), ok_body (Z := ⟨K, κ⟩) (O := []) (js_seq (js_if (jb_not (jb_B (j_callV via_id (ja_cons (j_var nin) (ja_cons j_int (ja_cons j_int ja_nil))) (len_cons (len_cons (len_cons (fun _ _ _ _ h => len_nil h))))))) (js_ret (JD.w j_bl)) js_next)
      (js_seq (js_asg (j_var nin) (jg_tup (jg_cons (jg_name nin nofun) (jg_cons (jg_name nin nofun) (jg_cons (jg_name nin nofun) jg_nil)))))
      (js_seq (js_if (jb_or (jb_test (j_op upD (r_inS (neg := true)) (j_var nin) (JD.w (j_c GT_SIDES.isD)))) (jb_or (jb_not (jb_B (j_callV via_id (ja_cons (j_var nin) (ja_cons (j_var nin) (ja_cons j_int ja_nil))) (len_cons (len_cons (len_cons (fun _ _ _ _ h => len_nil h))))))) (jb_not (jb_B (j_callV via_id (ja_cons (j_var nin) (ja_cons (j_var nin) (ja_cons j_int ja_nil))) (len_cons (len_cons (len_cons (fun _ _ _ _ h => len_nil h))))))))) (js_ret (JD.w j_bl)) js_next)
      (js_seq (js_if (jb_not (jb_B (j_cb c_all (ja_consW (JD.w (j_lc (ji_tup xCo (j_var nin)) (jg_name nin (fun w e => by cases e; decide)) jb_yes (j_callV via_id (ja_cons (j_var nin) ja_nil) (len_cons (fun _ _ _ _ h => len_nil h))))) ja_nil)))) (js_ret (JD.w j_bl)) js_next)
      (js_seq (js_asg (j_lc (ji_tup xCo (j_var nin)) (jg_name nin (fun w e => by cases e; decide)) jb_yes (j_op upD r_ixT (j_var nin) j_int)) (jg_name nin nofun))
      (js_ret (JD.w (j_cb c_all (ja_consW (JD.w (j_lc (ji_tup xCo (j_var nin)) (jg_name nin (fun w e => by cases e; decide)) jb_yes (j_callV via_id (ja_cons (j_var nin) (ja_cons (j_var nin) ja_nil)) (len_cons (len_cons (fun _ _ _ _ h => len_nil h)))))) ja_nil))))))))) (fun _ m => absurd m List.not_mem_nil) h⟩)
theorem ok__is_first_edition {f : Addr} {fd : FuncData} (F : Fun K "_is_first_edition" "_is_first_edition" s__is_first_edition f fd) (T : TxD2 mg) : FnOk P w K mg base CX0 1 f fd P__is_first_edition (spD ⟨K, κ⟩ 1 L__is_first_edition) := by
  exact F.ok sc__is_first_edition (fun vs H Q E h => h.1) (fun cdv A outer s H vs Q E hr h => ⟨_, (pss_cons (ps_asg (pv 0) (pg_tup rfl (pgs_cons (pg_name (i := 1) sc__is_first_edition.nd rfl (Or.inl rfl)) (pgs_cons (pg_name (i := 2) sc__is_first_edition.nd rfl (Or.inl rfl)) (pgs_cons (pg_name (i := 3) sc__is_first_edition.nd rfl (Or.inl rfl)) pgs_nil)))))
      (pss_cons (ps_if (pt_not (pt_val (pe_callB (cr_all rfl) (by rfl) T.n_all (by decide +kernel) (pa_cons (pe_lc (own := [("row", 4)]) (g := (gName 4)) (tt := tYes) rfl sc__is_first_edition.nd (pi_tup (pv 2)) (blkOk_by (N := N__is_first_edition) (sc := defScope s__is_first_edition) (by decide +kernel)) (fun _ _ _ _ _ => (pg_name (i := 4) sc__is_first_edition.nd rfl (Or.inl rfl))) (fun _ _ _ _ _ => pts_nil) (fun _ _ _ _ _ => (pe_cmpR (op_inS (neg := false) (Z := ⟨K, κ⟩) (hu70 hr) rfl) (pe_ix ix_tup (pv 4) pe_int (fun _ _ => rfl)) (pe_tup (pa_cons pe_str (pa_cons pe_str pa_nil))) rfl))) pa_nil)))) (pss_one (ps_ret pe_bl)) pss_nil)
      (pss_one (ps_ret (pe_callB (cr_all rfl) (by rfl) T.n_all (by decide +kernel) (pa_cons (pe_lc (own := [("row", 4)]) (g := (gName 4)) (tt := tYes) rfl sc__is_first_edition.nd (pi_tup (pv 3)) (blkOk_by (N := N__is_first_edition) (sc := defScope s__is_first_edition) (by decide +kernel)) (fun _ _ _ _ _ => (pg_name (i := 4) sc__is_first_edition.nd rfl (Or.inl rfl))) (fun _ _ _ _ _ => pts_nil) (fun _ _ _ _ _ => (pe_cmpR op_eq (pe_ix ix_tup (pv 4) pe_int (fun _ _ => rfl)) pe_str (nomark _)))) pa_nil)))))), ok_body (Z := ⟨K, κ⟩) (O := []) (js_seq (js_asg (j_var nin) (jg_tup (jg_cons (jg_name nin nofun) (jg_cons (jg_name nin nofun) (jg_cons (jg_name nin nofun) jg_nil)))))
      (js_seq (js_if (jb_not (jb_B (j_cb c_all (ja_consW (JD.w (j_lc (ji_tup xCo (j_var nin)) (jg_name nin (fun w e => by cases e; decide)) jb_yes (j_op upD (r_inS (neg := false)) (j_op upD r_ixT (j_var nin) j_int) (JD.w (j_tup (ja_cons j_str (ja_cons j_str ja_nil))))))) ja_nil)))) (js_ret (JD.w j_bl)) js_next)
      (js_ret (JD.w (j_cb c_all (ja_consW (JD.w (j_lc (ji_tup xCo (j_var nin)) (jg_name nin (fun w e => by cases e; decide)) jb_yes (j_op upD r_eq (j_op upD r_ixT (j_var nin) j_int) j_str))) ja_nil)))))) (fun _ m => absurd m List.not_mem_nil) h⟩)
theorem ok__is_program {f : Addr} {fd : FuncData} (F : Fun K "_is_program" "_is_program" s__is_program f fd) (T : TxD2 mg) (cL_is_tuple_of : Cal P w K mg base 1 "is_tuple_of" P_is_tuple_of (spD ⟨K, κ⟩ 3 L_is_tuple_of)) (cL_is_name : Cal P w K mg base 1 "is_name" P_is_name (spD ⟨K, κ⟩ 1 L_is_name)) (cL__is_edition : Cal P w K mg base 4 "_is_edition" P__is_edition (spD ⟨K, κ⟩ 2 L__is_edition)) (cL__is_first_edition : Cal P w K mg base 1 "_is_first_edition" P__is_first_edition (spD ⟨K, κ⟩ 1 L__is_first_edition)) : FnOk P w K mg base CX0 5 f fd P__is_program (spD ⟨K, κ⟩ 2 L__is_program) := by
  obtain ⟨f_is_tuple_of, fd_is_tuple_of, G_is_tuple_of, b_is_tuple_of, g_is_tuple_of, k_is_tuple_of⟩ := cL_is_tuple_of
  obtain ⟨f_is_name, fd_is_name, G_is_name, b_is_name, g_is_name, k_is_name⟩ := cL_is_name
  obtain ⟨f__is_edition, fd__is_edition, G__is_edition, b__is_edition, g__is_edition, k__is_edition⟩ := cL__is_edition
  obtain ⟨f__is_first_edition, fd__is_first_edition, G__is_first_edition, b__is_first_edition, g__is_first_edition, k__is_first_edition⟩ := cL__is_first_edition
  exact F.ok sc__is_program (fun vs H Q E h => h.1) (fun cdv A outer s H vs Q E hr h => ⟨_, (pss_cons (ps_if (pt_not (pt_val (pe_call G_is_tuple_of (hr.mono (by decide)) rfl g_is_tuple_of k_is_tuple_of b_is_tuple_of .nil pass0 (pa_cons (pv 1) (pa_cons pe_int (pa_cons pe_int pa_nil)))))) (pss_one (ps_ret pe_bl)) pss_nil)
      (pss_cons (ps_asg (pv 1) (pg_tup rfl (pgs_cons (pg_name (i := 2) sc__is_program.nd rfl (Or.inl rfl)) (pgs_cons (pg_name (i := 3) sc__is_program.nd rfl (Or.inl rfl)) pgs_nil))))
      (pss_cons (ps_if (PW.pt (pw_or (pt_not (pt_val (pe_call G_is_name (hr.mono (by decide)) rfl g_is_name k_is_name b_is_name .nil pass0 (pa_cons (pv 2) pa_nil)))) (pw_or1 (pt_not (pt_val (pe_call G_is_tuple_of (hr.mono (by decide)) rfl g_is_tuple_of k_is_tuple_of b_is_tuple_of .nil pass0 (pa_cons (pv 3) (pa_cons pe_int (pa_cons pe_int pa_nil))))))))) (pss_one (ps_ret pe_bl)) pss_nil)
      (pss_cons (ps_if (pt_not (pt_val (pe_callB (cr_all rfl) (by rfl) T.n_all (by decide +kernel) (pa_cons (pe_lc (own := [("edition", 4)]) (g := (gName 4)) (tt := tYes) rfl sc__is_program.nd (pi_tup (pv 3)) (blkOk_by (N := N__is_program) (sc := defScope s__is_program) (by decide +kernel)) (fun _ _ _ _ _ => (pg_name (i := 4) sc__is_program.nd rfl (Or.inl rfl))) (fun _ _ _ _ _ => pts_nil) (fun _ _ _ _ _ => (pe_call G__is_edition (hr.mono (by decide)) rfl g__is_edition k__is_edition b__is_edition .nil pass0 (pa_cons (pv 0) (pa_cons (pv 4) pa_nil))))) pa_nil)))) (pss_one (ps_ret pe_bl)) pss_nil)
      (pss_one (ps_ret (pe_call G__is_first_edition (hr.mono (by decide)) rfl g__is_first_edition k__is_first_edition b__is_first_edition .nil pass0 (pa_cons (pe_ix ix_tup (pv 3) pe_int (fun _ _ => rfl)) pa_nil)))))))), ok_body (Z := ⟨K, κ⟩) (O := []) (js_seq (js_if (jb_not (jb_B (j_callV via_id (ja_cons (j_var nin) (ja_cons j_int (ja_cons j_int ja_nil))) (len_cons (len_cons (len_cons (fun _ _ _ _ h => len_nil h))))))) (js_ret (JD.w j_bl)) js_next)
      (js_seq (js_asg (j_var nin) (jg_tup (jg_cons (jg_name nin nofun) (jg_cons (jg_name nin nofun) jg_nil))))
      (js_seq (js_if (jb_or (jb_not (jb_B (j_callV via_id (ja_cons (j_var nin) ja_nil) (len_cons (fun _ _ _ _ h => len_nil h))))) (jb_not (jb_B (j_callV via_id (ja_cons (j_var nin) (ja_cons j_int (ja_cons j_int ja_nil))) (len_cons (len_cons (len_cons (fun _ _ _ _ h => len_nil h)))))))) (js_ret (JD.w j_bl)) js_next)
      (js_seq (js_if (jb_not (jb_B (j_cb c_all (ja_consW (JD.w (j_lc (ji_tup xCo (j_var nin)) (jg_name nin (fun w e => by cases e; decide)) jb_yes (j_callV via_id (ja_cons (j_var nin) (ja_cons (j_var nin) ja_nil)) (len_cons (len_cons (fun _ _ _ _ h => len_nil h)))))) ja_nil)))) (js_ret (JD.w j_bl)) js_next)
      (js_ret (JD.w (j_callV via_id (ja_cons (j_op upD r_ixT (j_var nin) j_int) ja_nil) (len_cons (fun _ _ _ _ h => len_nil h))))))))) (fun _ m => absurd m List.not_mem_nil) h⟩)
theorem ok__many_in_two_events {f : Addr} {fd : FuncData} (F : Fun K "_many_in_two_events" "_many_in_two_events" s__many_in_two_events f fd) (T : TxD2 mg) (GT_IN_TWO_EVENTS : GTup K mg "IN_TWO_EVENTS" a_IN_TWO_EVENTS ["narrow first", "wide first"]) : FnOk P w K mg base CX0 1 f fd P__many_in_two_events (spD ⟨K, κ⟩ 1 L__many_in_two_events) := by
  exact F.ok sc__many_in_two_events (fun vs H Q E h => h.1) (fun cdv A outer s H vs Q E hr h => ⟨_, (pss_cons (ps_set (i := 1) sc__many_in_two_events.nd rfl (Or.inl rfl) pe_int)
      (pss_cons (ps_for PassesOwn.never rfl (pi_tup (pv 0)) (pg_tup rfl (pgs_cons (pg_name (i := 2) sc__many_in_two_events.nd rfl (Or.inl rfl)) (pgs_cons (pg_name (i := 3) sc__many_in_two_events.nd rfl (Or.inl rfl)) pgs_nil))) (pss_one (ps_for PassesOwn.never rfl (pi_tup (pv 3)) (pg_tup rfl (pgs_cons (pg_name (i := 2) sc__many_in_two_events.nd rfl (Or.inl rfl)) (pgs_cons (pg_name (i := 2) sc__many_in_two_events.nd rfl (Or.inl rfl)) (pgs_cons (pg_name (i := 4) sc__many_in_two_events.nd rfl (Or.inl rfl)) pgs_nil)))) (pss_one (ps_set (i := 1) sc__many_in_two_events.nd rfl (Or.inl rfl) (pe_op op_add (pv 1) (pe_callB call_len_seq (by rfl) T.n_len (by decide +kernel) (pa_cons (pe_lc (own := [("row", 5)]) (g := (gName 5))  rfl sc__many_in_two_events.nd (pi_tup (pv 4)) (blkOk_by (N := N__many_in_two_events) (sc := defScope s__many_in_two_events) (by decide +kernel)) (fun _ _ _ _ _ => (pg_name (i := 5) sc__many_in_two_events.nd rfl (Or.inl rfl))) (fun _ _ _ _ _ => (pts_one (pt_cmpR (op_inS (neg := false) (Z := ⟨K, κ⟩) (hu70 hr) rfl) (pe_ix ix_tup (pv 5) pe_int (fun _ _ => rfl)) (pe_glob (v := .ref a_IN_TWO_EVENTS) rfl GT_IN_TWO_EVENTS.g rfl) rfl))) (fun _ _ _ _ _ => (pv 5))) pa_nil))))))))
      (pss_one (ps_ret (pv 1))))), ok_body (Z := ⟨K, κ⟩) (O := []) (js_seq (js_asg j_int (jg_name nin nofun))
      (js_seq (js_for (ji_tup xS (j_var nin)) (jg_tup (jg_cons (jg_name nin nofun) (jg_cons (jg_name nin nofun) jg_nil))) (js_for (ji_tup xS (j_var nin)) (jg_tup (jg_cons (jg_name nin nofun) (jg_cons (jg_name nin nofun) (jg_cons (jg_name nin nofun) jg_nil)))) (js_asg (j_op upD r_add (j_var nin) (j_cb c_len (ja_consW (JD.w (j_lc (ji_tup xCo (j_var nin)) (jg_name nin (fun w e => by cases e; decide)) (jb_test (j_op upD (r_inS (neg := false)) (j_op upD r_ixT (j_var nin) j_int) (JD.w (j_c GT_IN_TWO_EVENTS.isD)))) (j_var nin))) ja_nil))) (jg_name nin nofun))))
      (js_ret (JD.w (j_var nin))))) (fun _ m => absurd m List.not_mem_nil) h⟩)
theorem ok__are_programs {f : Addr} {fd : FuncData} (F : Fun K "_are_programs" "_are_programs" s__are_programs f fd) (T : TxD2 mg) (TN : TxN mg n_MOST_LETTERS n_LEAST_NARROW n_MOST_PACE n_MOST_IN_TWO_EVENTS) (cL_is_tuple_of : Cal P w K mg base 1 "is_tuple_of" P_is_tuple_of (spD ⟨K, κ⟩ 3 L_is_tuple_of)) (cL__is_program : Cal P w K mg base 5 "_is_program" P__is_program (spD ⟨K, κ⟩ 2 L__is_program)) (cL_is_ascending : Cal P w K mg base 1 "is_ascending" P_is_ascending (spD ⟨K, κ⟩ 1 L_is_ascending)) (cL__many_in_two_events : Cal P w K mg base 1 "_many_in_two_events" P__many_in_two_events (spD ⟨K, κ⟩ 1 L__many_in_two_events)) : FnOk P w K mg base CX0 6 f fd P__are_programs (spD ⟨K, κ⟩ 2 L__are_programs) := by
  obtain ⟨f_is_tuple_of, fd_is_tuple_of, G_is_tuple_of, b_is_tuple_of, g_is_tuple_of, k_is_tuple_of⟩ := cL_is_tuple_of
  obtain ⟨f__is_program, fd__is_program, G__is_program, b__is_program, g__is_program, k__is_program⟩ := cL__is_program
  obtain ⟨f_is_ascending, fd_is_ascending, G_is_ascending, b_is_ascending, g_is_ascending, k_is_ascending⟩ := cL_is_ascending
  obtain ⟨f__many_in_two_events, fd__many_in_two_events, G__many_in_two_events, b__many_in_two_events, g__many_in_two_events, k__many_in_two_events⟩ := cL__many_in_two_events
  exact F.ok sc__are_programs (fun vs H Q E h => h.1) (fun cdv A outer s H vs Q E hr h => ⟨_, (pss_cons (ps_if (pt_not (pt_val (pe_call G_is_tuple_of (hr.mono (by decide)) rfl g_is_tuple_of k_is_tuple_of b_is_tuple_of .nil pass0 (pa_cons (pv 1) (pa_cons pe_int (pa_cons pe_int pa_nil)))))) (pss_one (ps_ret pe_bl)) pss_nil)
      (pss_cons (ps_if (pt_not (pt_val (pe_callB (cr_all rfl) (by rfl) T.n_all (by decide +kernel) (pa_cons (pe_lc (own := [("program", 2)]) (g := (gName 2)) (tt := tYes) rfl sc__are_programs.nd (pi_tup (pv 1)) (blkOk_by (N := N__are_programs) (sc := defScope s__are_programs) (by decide +kernel)) (fun _ _ _ _ _ => (pg_name (i := 2) sc__are_programs.nd rfl (Or.inl rfl))) (fun _ _ _ _ _ => pts_nil) (fun _ _ _ _ _ => (pe_call G__is_program (hr.mono (by decide)) rfl g__is_program k__is_program b__is_program .nil pass0 (pa_cons (pv 0) (pa_cons (pv 2) pa_nil))))) pa_nil)))) (pss_one (ps_ret pe_bl)) pss_nil)
      (pss_cons (ps_if (pt_not (pt_val (pe_call G_is_ascending (hr.mono (by decide)) rfl g_is_ascending k_is_ascending b_is_ascending .nil pass0 (pa_cons (pe_lc (own := [("name", 3), ("_", 4)]) (g := (gTup _ 2 (gCons (gName 3) (gCons (gName 4) gNil)))) (tt := tYes) rfl sc__are_programs.nd (pi_tup (pv 1)) (blkOk_by (N := N__are_programs) (sc := defScope s__are_programs) (by decide +kernel)) (fun _ _ _ _ _ => (pg_tup rfl (pgs_cons (pg_name (i := 3) sc__are_programs.nd rfl (Or.inl rfl)) (pgs_cons (pg_name (i := 4) sc__are_programs.nd rfl (Or.inl rfl)) pgs_nil)))) (fun _ _ _ _ _ => pts_nil) (fun _ _ _ _ _ => (pv 3))) pa_nil)))) (pss_one (ps_ret pe_bl)) pss_nil)
      (pss_one (ps_ret (pe_cmpR op_le (pe_call G__many_in_two_events (hr.mono (by decide)) rfl g__many_in_two_events k__many_in_two_events b__many_in_two_events .nil pass0 (pa_cons (pv 1) pa_nil)) (pe_glob (v := .int 2) rfl TN.g_MOST_IN_TWO_EVENTS ⟨_, rfl⟩) (nomark _))))))), ok_body (Z := ⟨K, κ⟩) (O := []) (js_seq (js_if (jb_not (jb_B (j_callV via_id (ja_cons (j_var nin) (ja_cons j_int (ja_cons j_int ja_nil))) (len_cons (len_cons (len_cons (fun _ _ _ _ h => len_nil h))))))) (js_ret (JD.w j_bl)) js_next)
      (js_seq (js_if (jb_not (jb_B (j_cb c_all (ja_consW (JD.w (j_lc (ji_tup xCo (j_var nin)) (jg_name nin (fun w e => by cases e; decide)) jb_yes (j_callV via_id (ja_cons (j_var nin) (ja_cons (j_var nin) ja_nil)) (len_cons (len_cons (fun _ _ _ _ h => len_nil h)))))) ja_nil)))) (js_ret (JD.w j_bl)) js_next)
      (js_seq (js_if (jb_not (jb_B (j_callV via_id (ja_cons (j_lc (ji_tup xCo (j_var nin)) (jg_tup (jg_cons (jg_name nin (fun w e => by cases e; decide)) (jg_cons (jg_name nin (fun w e => by cases e; decide)) jg_nil))) jb_yes (j_var nin)) ja_nil) (len_cons (fun _ _ _ _ h => len_nil h))))) (js_ret (JD.w j_bl)) js_next)
      (js_ret (JD.w (j_op upD r_le (j_callV via_id (ja_cons (j_var nin) ja_nil) (len_cons (fun _ _ _ _ h => len_nil h))) j_int)))))) (fun _ m => absurd m List.not_mem_nil) h⟩)
theorem ok_World___init__ {f : Addr} {fd : FuncData} (F : Fun K "__init__" "World.__init__" s_World___init__ f fd) (T : TxD2 mg) (cL__are_kinds : Cal P w K mg base 3 "_are_kinds" P__are_kinds (spD ⟨K, κ⟩ 2 L__are_kinds)) (cL__are_columns : Cal P w K mg base 2 "_are_columns" P__are_columns (spD ⟨K, κ⟩ 1 L__are_columns)) (cL__are_programs : Cal P w K mg base 6 "_are_programs" P__are_programs (spD ⟨K, κ⟩ 2 L__are_programs)) (CT_World : ClsI K mg ⟨K, κ⟩ "World" "World" ["narrow", "wide", "columns", "programs"]) : FnOk P w K mg base CX0 7 f fd P_World___init__ (spD ⟨K, κ⟩ 5 L_World___init__) := by
  obtain ⟨f__are_kinds, fd__are_kinds, G__are_kinds, b__are_kinds, g__are_kinds, k__are_kinds⟩ := cL__are_kinds
  obtain ⟨f__are_columns, fd__are_columns, G__are_columns, b__are_columns, g__are_columns, k__are_columns⟩ := cL__are_columns
  obtain ⟨f__are_programs, fd__are_programs, G__are_programs, b__are_programs, g__are_programs, k__are_programs⟩ := cL__are_programs
  exact F.ok sc_World___init__ (fun vs H Q E h => h.1) (fun cdv A outer s H vs Q E hr h => ⟨_, (pss_cons (ps_set (i := 5) sc_World___init__.nd rfl (Or.inl rfl) (pe_and (pe_call G__are_kinds (hr.mono (by decide)) rfl g__are_kinds k__are_kinds b__are_kinds .nil pass0 (pa_cons (pv 1) (pa_cons (pv 2) pa_nil))) (pe_and (pe_call G__are_columns (hr.mono (by decide)) rfl g__are_columns k__are_columns b__are_columns .nil pass0 (pa_cons (pv 3) pa_nil)) (pe_one (pe_call G__are_programs (hr.mono (by decide)) rfl g__are_programs k__are_programs b__are_programs .nil pass0 (pa_cons (pv 3) (pa_cons (pv 4) pa_nil)))))))
      (pss_cons (ps_if (pt_not (pt_val (pv 5))) (pss_one ps_never) pss_nil)
      (pss_cons (ps_fld (pv 0) (pv 1) rfl)
      (pss_cons (ps_fld (pv 0) (pv 2) rfl)
      (pss_cons (ps_fld (pv 0) (pv 3) rfl)
      (pss_one (ps_fld (pv 0) (pv 4) rfl))))))), ok_body (Z := ⟨K, κ⟩) (O := []) (js_seq (js_asg (j_andV (j_callV via_id (ja_cons (j_var nin) (ja_cons (j_var nin) ja_nil)) (len_cons (len_cons (fun _ _ _ _ h => len_nil h)))) (j_andV (j_callV via_id (ja_cons (j_var nin) ja_nil) (len_cons (fun _ _ _ _ h => len_nil h))) (j_callV via_id (ja_cons (j_var nin) (ja_cons (j_var nin) ja_nil)) (len_cons (len_cons (fun _ _ _ _ h => len_nil h)))))) (jg_name nin nofun))
      (js_seq (js_if (jb_not (jb_B (j_var nin))) js_never js_next)
      (js_seq (js_setFL CT_World.t (.head _) (j_var nin) (j_var nin))
      (js_seq (js_setFL CT_World.t (.tail _ (.head _)) (j_var nin) (j_var nin))
      (js_seq (js_setFL CT_World.t (.tail _ (.tail _ (.head _))) (j_var nin) (j_var nin))
      (js_setFL CT_World.t (.tail _ (.tail _ (.tail _ (.head _)))) (j_var nin) (j_var nin))))))) (fun _ m => absurd m List.not_mem_nil) h⟩)
theorem ok__is_part {f : Addr} {fd : FuncData} (F : Fun K "_is_part" "_is_part" s__is_part f fd) (T : TxD2 mg) (CT_World : ClsI K mg ⟨K, κ⟩ "World" "World" ["narrow", "wide", "columns", "programs"]) (cL_editions_of : Cal P w K mg base 1 "editions_of" P_editions_of (spD ⟨K, κ⟩ 2 L_editions_of)) (cL_is_plain_part : Cal P w K mg base 3 "is_plain_part" P_is_plain_part (spD ⟨K, κ⟩ 2 L_is_plain_part)) : FnOk P w K mg base CX0 4 f fd P__is_part (spD ⟨K, κ⟩ 3 L__is_part) := by
  obtain ⟨f_editions_of, fd_editions_of, G_editions_of, b_editions_of, g_editions_of, k_editions_of⟩ := cL_editions_of
  obtain ⟨f_is_plain_part, fd_is_plain_part, G_is_plain_part, b_is_plain_part, g_is_plain_part, k_is_plain_part⟩ := cL_is_plain_part
  exact F.ok sc__is_part (fun vs H Q E h => h.1) (fun cdv A outer s H vs Q E hr h => ⟨_, (pss_cons (ps_if (pt_cmpR op_eq (pv 1) pe_str (nomark _)) (pss_one (ps_ret (pe_cmpR (op_inS (neg := false) (Z := ⟨K, κ⟩) (hu70 hr) rfl) (pv 2) (pe_fld (pv 0) rfl) rfl))) pss_nil)
      (pss_cons (ps_if (pt_cmpR op_eq (pv 1) pe_str (nomark _)) (pss_one (ps_ret (pe_cmpR (op_neD hr.units) (pe_call G_editions_of (hr.mono (by decide)) rfl g_editions_of k_editions_of b_editions_of .nil pass0 (pa_cons (pv 0) (pa_cons (pv 2) pa_nil))) (pe_tup pa_nil) (nomark _)))) pss_nil)
      (pss_one (ps_ret (pe_call G_is_plain_part (hr.mono (by decide)) rfl g_is_plain_part k_is_plain_part b_is_plain_part .nil pass0 (pa_cons (pv 1) (pa_cons (pv 2) pa_nil))))))), ok_body (Z := ⟨K, κ⟩) (O := []) (js_seq (js_if (jb_test (j_op upD r_eq (j_var nin) j_str)) (js_ret (JD.w (j_op upD (r_inS (neg := false)) (j_var nin) (JD.w (j_fldI CT_World.t (.tail _ (.tail _ (.head _))) (j_var nin)))))) js_next)
      (js_seq (js_if (jb_test (j_op upD r_eq (j_var nin) j_str)) (js_ret (JD.w (j_op upW r_neD (JD.w (j_callV via_id (ja_cons (j_var nin) (ja_cons (j_var nin) ja_nil)) (len_cons (len_cons (fun _ _ _ _ h => len_nil h))))) (JD.w (j_tup ja_nil))))) js_next)
      (js_ret (JD.w (j_callV via_id (ja_cons (j_var nin) (ja_cons (j_var nin) ja_nil)) (len_cons (len_cons (fun _ _ _ _ h => len_nil h)))))))) (fun _ m => absurd m List.not_mem_nil) h⟩)
theorem ok_are_parts {f : Addr} {fd : FuncData} (F : Fun K "are_parts" "are_parts" s_are_parts f fd) (T : TxD2 mg) (cL__is_part : Cal P w K mg base 4 "_is_part" P__is_part (spD ⟨K, κ⟩ 3 L__is_part)) : FnOk P w K mg base CX0 5 f fd P_are_parts (spD ⟨K, κ⟩ 3 L_are_parts) := by
  obtain ⟨f__is_part, fd__is_part, G__is_part, b__is_part, g__is_part, k__is_part⟩ := cL__is_part
  exact F.ok sc_are_parts (fun vs H Q E h => h.1) (fun cdv A outer s H vs Q E hr h => ⟨_, (pss_cons (ps_if (pt_cmpR op_ne (pe_callB call_len_seq (by rfl) T.n_len (by decide +kernel) (pa_cons (pv 2) pa_nil)) (pe_callB call_len_seq (by rfl) T.n_len (by decide +kernel) (pa_cons (pv 1) pa_nil)) (nomark _)) (pss_one (ps_ret pe_bl)) pss_nil)
      (pss_one (ps_ret (pe_callB (cr_all rfl) (by rfl) T.n_all (by decide +kernel) (pa_cons (pe_lc (own := [("part", 3), ("item", 4)]) (g := (gTup _ 2 (gCons (gName 3) (gCons (gName 4) gNil)))) (tt := tYes) rfl sc_are_parts.nd (pi_zipG rfl T.n_zip (pa_cons (pv 1) (pa_cons (pv 2) pa_nil))) (blkOk_by (N := N_are_parts) (sc := defScope s_are_parts) (by decide +kernel)) (fun _ _ _ _ _ => (pg_tup rfl (pgs_cons (pg_name (i := 3) sc_are_parts.nd rfl (Or.inl rfl)) (pgs_cons (pg_name (i := 4) sc_are_parts.nd rfl (Or.inl rfl)) pgs_nil)))) (fun _ _ _ _ _ => pts_nil) (fun _ _ _ _ _ => (pe_call G__is_part (hr.mono (by decide)) rfl g__is_part k__is_part b__is_part .nil pass0 (pa_cons (pv 0) (pa_cons (pv 3) (pa_cons (pv 4) pa_nil)))))) pa_nil))))), ok_body (Z := ⟨K, κ⟩) (O := []) (js_seq (js_if (jb_test (j_op upD r_ne (j_cb c_len (ja_consW (JD.w (j_var nin)) ja_nil)) (j_cb c_len (ja_consW (JD.w (j_var nin)) ja_nil)))) (js_ret (JD.w j_bl)) js_next)
      (js_ret (JD.w (j_cb c_all (ja_consW (JD.w (j_lc (ji_zipG xCo (ja_cons (j_var nin) (ja_cons (j_var nin) ja_nil))) (jg_tup (jg_cons (jg_name nin (fun w e => by cases e; decide)) (jg_cons (jg_name nin (fun w e => by cases e; decide)) jg_nil))) jb_yes (j_callV via_id (ja_cons (j_var nin) (ja_cons (j_var nin) (ja_cons (j_var nin) ja_nil))) (len_cons (len_cons (len_cons (fun _ _ _ _ h => len_nil h))))))) ja_nil))))) (fun _ m => absurd m List.not_mem_nil) h⟩)
theorem ok_is_step {f : Addr} {fd : FuncData} (F : Fun K "is_step" "is_step" s_is_step f fd) (T : TxD2 mg) (cL_step_form : Cal P w K mg base 2 "step_form" P_step_form (spD ⟨K, κ⟩ 1 L_step_form)) (cL_are_parts : Cal P w K mg base 5 "are_parts" P_are_parts (spD ⟨K, κ⟩ 3 L_are_parts)) : FnOk P w K mg base CX0 6 f fd P_is_step (spD ⟨K, κ⟩ 2 L_is_step) := by
  obtain ⟨f_step_form, fd_step_form, G_step_form, b_step_form, g_step_form, k_step_form⟩ := cL_step_form
  obtain ⟨f_are_parts, fd_are_parts, G_are_parts, b_are_parts, g_are_parts, k_are_parts⟩ := cL_are_parts
  exact F.ok sc_is_step (fun vs H Q E h => h.1) (fun cdv A outer s H vs Q E hr h => ⟨_, (pss_cons (ps_set (i := 2) sc_is_step.nd rfl (Or.inl rfl) (pe_call G_step_form (hr.mono (by decide)) rfl g_step_form k_step_form b_step_form .nil pass0 (pa_cons (pv 1) pa_nil)))
      (pss_one (ps_ret (pe_and (pe_cmpR op_notN (pv 2) pe_non (nomark _)) (pe_one (pe_call G_are_parts (hr.mono (by decide)) rfl g_are_parts k_are_parts b_are_parts .nil pass0 (pa_cons (pv 0) (pa_cons (pv 2) (pa_cons (pe_slice sl_tupA (pv 1) (po_some pe_int) po_none) pa_nil))))))))), ok_body (Z := ⟨K, κ⟩) (O := []) (js_seq (js_asg (j_callV via_id (ja_cons (j_var nin) ja_nil) (len_cons (fun _ _ _ _ h => len_nil h))) (jg_name nin nofun))
      (js_ret (JD.w (j_andV (j_op upD r_notN (j_var nin) j_non) (j_callV via_id (ja_cons (j_var nin) (ja_cons (j_var nin) (ja_cons (j_slT (j_var nin) (jo_some j_int) jo_none) ja_nil))) (len_cons (len_cons (len_cons (fun _ _ _ _ h => len_nil h))))))))) (fun _ m => absurd m List.not_mem_nil) h⟩)
theorem ok__law_pot_of {f : Addr} {fd : FuncData} (F : Fun K "_law_pot_of" "_law_pot_of" s__law_pot_of f fd) (T : TxD2 mg) : FnOk P w K mg base CX0 1 f fd P__law_pot_of (spD ⟨K, κ⟩ 2 L__law_pot_of) := by
  exact F.ok sc__law_pot_of (fun vs H Q E h => h.1) (fun cdv A outer s H vs Q E hr h => ⟨_, (pss_cons (ps_set (i := 2) sc__law_pot_of.nd rfl (Or.inl rfl) (pe_ifExp (pt_cmpR op_lt (pv 1) (pe_callB call_len_seq (by rfl) T.n_len (by decide +kernel) (pa_cons (pv 0) pa_nil)) (nomark _)) (pe_ix ix_list (pv 0) (pv 1) (fun _ _ => rfl)) (pe_op op_add (pe_op op_mul pe_int (pv 1)) pe_int)))
      (pss_cons (ps_set (i := 3) sc__law_pot_of.nd rfl (Or.inl rfl) (pe_op op_mul (pe_op op_mod (pe_callTy call_int1 (by rfl) T.n_int (by decide +kernel) (pa_cons (pe_callB call_abs (by rfl) T.n_abs (by decide +kernel) (pa_cons (pv 2) pa_nil)) pa_nil)) (pe_op op_powZ (pe_op op_pow pe_int pe_int) pe_int)) (pe_callTy call_int1 (by rfl) T.n_int (by decide +kernel) (pa_cons (pe_cmpR op_ge (pe_callB call_abs (by rfl) T.n_abs (by decide +kernel) (pa_cons (pv 2) pa_nil)) (pe_op op_pow pe_int pe_int) (nomark _)) pa_nil))))
      (pss_one (ps_ret (pe_lst (pa_cons (pv 3) (pa_cons (pe_op op_mod (pe_op op_add (pe_op op_add (pe_op op_mul (pe_op op_mod (pe_callTy call_int1 (by rfl) T.n_int (by decide +kernel) (pa_cons (pv 2) pa_nil)) pe_int) pe_int) (pe_op op_mul (pe_op op_mul pe_int (pv 1)) (pv 1))) pe_int) pe_int) (pa_cons pe_int pa_nil)))))))), ok_body (Z := ⟨K, κ⟩) (O := []) (js_seq (js_asg (j_if (jb_test (j_op upD r_lt (j_var nin) (j_cb c_len (ja_consW (JD.w (j_var nin)) ja_nil)))) (j_op upD r_ixSc (j_var nin) (j_var nin)) (j_op upD r_add (j_op upD r_mul j_int (j_var nin)) j_int)) (jg_name nin nofun))
      (js_seq (js_asg (j_op upD r_mul (j_op upD r_mod (j_cb c_int (ja_cons (j_cb c_abs (ja_cons (j_var nin) ja_nil)) ja_nil)) (j_op upD r_powZ (j_op upD r_pow j_int j_int) j_int)) (j_cb c_int (ja_cons (j_op upD r_ge (j_cb c_abs (ja_cons (j_var nin) ja_nil)) (j_op upD r_pow j_int j_int)) ja_nil))) (jg_name nin nofun))
      (js_retLo (jf_lst (ja_cons (j_var nin) (ja_cons (j_op upD r_mod (j_op upD r_add (j_op upD r_add (j_op upD r_mul (j_op upD r_mod (j_cb c_int (ja_cons (j_var nin) ja_nil)) j_int) j_int) (j_op upD r_mul (j_op upD r_mul j_int (j_var nin)) (j_var nin))) j_int) j_int) (ja_cons j_int ja_nil))))))) (fun _ m => absurd m List.not_mem_nil) h⟩)
theorem ok__law_take {f : Addr} {fd : FuncData} (F : Fun K "_law_take" "_law_take" s__law_take f fd) (T : TxD2 mg) : FnOk P w K mg base CX0 1 f fd P__law_take (spD ⟨K, κ⟩ 2 L__law_take) := by
  exact F.ok sc__law_take (fun vs H Q E h => h.1) (fun cdv A outer s H vs Q E hr h => ⟨_, (pss_cons (ps_if (pt_cmpR op_gt (pe_ix ix_list (pv 0) pe_int (fun _ _ => rfl)) pe_int (nomark _)) (pss_cons (ps_set (i := 2) sc__law_take.nd rfl (Or.inl rfl) (pe_op op_mod (pe_callTy call_int1 (by rfl) T.n_int (by decide +kernel) (pa_cons (pe_ix ix_list (pv 0) pe_int (fun _ _ => rfl)) pa_nil)) (pv 1)))
      (pss_cons (ps_asg (pe_op op_fdivW (pe_ix ix_list (pv 0) pe_int (fun _ _ => rfl)) (pv 1)) (pg_sub (pv 0) pe_int set_list))
      (pss_one (ps_ret (pv 2))))) pss_nil)
      (pss_cons (ps_asg (pe_op op_add (pe_ix ix_list (pv 0) pe_int (fun _ _ => rfl)) pe_int) (pg_sub (pv 0) pe_int set_list))
      (pss_cons (ps_set (i := 3) sc__law_take.nd rfl (Or.inl rfl) (pe_ix ix_list (pe_lst (pa_cons pe_int (pa_cons pe_int (pa_cons pe_int (pa_cons pe_int (pa_cons pe_int pa_nil)))))) (pe_op op_mod (pe_callTy call_int1 (by rfl) T.n_int (by decide +kernel) (pa_cons (pe_ix ix_list (pv 0) pe_int (fun _ _ => rfl)) pa_nil)) pe_int) (fun _ _ => rfl)))
      (pss_cons (ps_set (i := 4) sc__law_take.nd rfl (Or.inl rfl) (pe_op op_mod (pe_op op_pow (pe_callTy call_int1 (by rfl) T.n_int (by decide +kernel) (pa_cons (pe_op op_add (pe_op op_add (pe_ix ix_list (pv 0) pe_int (fun _ _ => rfl)) (pe_op op_mul (pe_op op_mul pe_int (pe_ix ix_list (pv 0) pe_int (fun _ _ => rfl))) (pe_ix ix_list (pv 0) pe_int (fun _ _ => rfl)))) pe_int) pa_nil)) pe_int) (pv 3)))
      (pss_cons (ps_set (i := 4) sc__law_take.nd rfl (Or.inl rfl) (pe_op op_mod (pe_callTy call_int1 (by rfl) T.n_int (by decide +kernel) (pa_cons (pe_op op_mul (pv 4) (pe_op op_add (pe_op op_mod (pe_callTy call_int1 (by rfl) T.n_int (by decide +kernel) (pa_cons (pv 4) pa_nil)) pe_int) (pe_op op_mul pe_int (pe_ix ix_list (pv 0) pe_int (fun _ _ => rfl))))) pa_nil)) pe_int))
      (pss_one (ps_ret (pe_op op_mod (pe_op op_fdivW (pv 4) pe_int) (pv 1))))))))), ok_body (Z := ⟨K, κ⟩) (O := []) (js_seq (js_if (jb_test (j_op upD r_gt (j_op upD r_ixLo (j_var nin) j_int) j_int)) (js_seq (js_asg (j_op upD r_mod (j_cb c_int (ja_cons (j_op upD r_ixLo (j_var nin) j_int) ja_nil)) (j_var nin)) (jg_name nin nofun))
      (js_seq (js_setLo nin j_int (j_op upD r_div (j_op upD r_ixLo (j_var nin) j_int) (j_var nin)))
      (js_ret (JD.w (j_var nin))))) js_next)
      (js_seq (js_setLo nin j_int (j_op upD r_add (j_op upD r_ixLo (j_var nin) j_int) j_int))
      (js_seq (js_asg (j_op upW r_ixL (JD.w (j_lst (ja_cons j_int (ja_cons j_int (ja_cons j_int (ja_cons j_int (ja_cons j_int ja_nil))))))) (j_op upD r_mod (j_cb c_int (ja_cons (j_op upD r_ixLo (j_var nin) j_int) ja_nil)) j_int)) (jg_name nin nofun))
      (js_seq (js_asg (j_op upD r_mod (j_op upD r_pow (j_cb c_int (ja_cons (j_op upD r_add (j_op upD r_add (j_op upD r_ixLo (j_var nin) j_int) (j_op upD r_mul (j_op upD r_mul j_int (j_op upD r_ixLo (j_var nin) j_int)) (j_op upD r_ixLo (j_var nin) j_int))) j_int) ja_nil)) j_int) (j_var nin)) (jg_name nin nofun))
      (js_seq (js_asg (j_op upD r_mod (j_cb c_int (ja_cons (j_op upD r_mul (j_var nin) (j_op upD r_add (j_op upD r_mod (j_cb c_int (ja_cons (j_var nin) ja_nil)) j_int) (j_op upD r_mul j_int (j_op upD r_ixLo (j_var nin) j_int)))) ja_nil)) j_int) (jg_name nin nofun))
      (js_ret (JD.w (j_op upD r_mod (j_op upD r_div (j_var nin) j_int) (j_var nin))))))))) (fun _ m => absurd m List.not_mem_nil) h⟩)
theorem ok__law_of {f : Addr} {fd : FuncData} (F : Fun K "_law_of" "_law_of" s__law_of f fd) (T : TxD2 mg) (cL__law_take : Cal P w K mg base 1 "_law_take" P__law_take (spD ⟨K, κ⟩ 2 L__law_take)) : FnOk P w K mg base CX0 2 f fd P__law_of (spD ⟨K, κ⟩ 2 L__law_of) := by
  obtain ⟨f__law_take, fd__law_take, G__law_take, b__law_take, g__law_take, k__law_take⟩ := cL__law_take
  exact F.ok sc__law_of (fun vs H Q E h => h.1) (fun cdv A outer s H vs Q E hr h => ⟨_, (pss_one (ps_ret (pe_ix ix_list (pv 1) (pe_call G__law_take (hr.mono (by decide)) rfl g__law_take k__law_take b__law_take .nil pass0 (pa_cons (pv 0) (pa_cons (pe_callB call_len_seq (by rfl) T.n_len (by decide +kernel) (pa_cons (pv 1) pa_nil)) pa_nil))) (fun _ _ => rfl)))), ok_body (Z := ⟨K, κ⟩) (O := []) (js_ret (JD.w (j_op upW r_ixL (JD.w (j_var nin)) (j_callV via_id (ja_cons (j_var nin) (ja_cons (j_cb c_len (ja_consW (JD.w (j_var nin)) ja_nil)) ja_nil)) (len_cons (len_cons (fun _ _ _ _ h => len_nil h))))))) (fun _ m => absurd m List.not_mem_nil) h⟩)
theorem ok__law_some_names {f : Addr} {fd : FuncData} (F : Fun K "_law_some_names" "_law_some_names" s__law_some_names f fd) (T : TxD2 mg) (n_sorted : mg "sorted" = none) (cL__law_take : Cal P w K mg base 1 "_law_take" P__law_take (spD ⟨K, κ⟩ 2 L__law_take)) : FnOk P w K mg base CX0 2 f fd P__law_some_names (spD ⟨K, κ⟩ 2 L__law_some_names) := by
  obtain ⟨f__law_take, fd__law_take, G__law_take, b__law_take, g__law_take, k__law_take⟩ := cL__law_take
  exact F.ok sc__law_some_names (fun vs H Q E h => h.1) (fun cdv A outer s H vs Q E hr h => ⟨_, (pss_cons (ps_set (i := 2) sc__law_some_names.nd rfl (Or.inl rfl) (pe_lst (pa_cons pe_str (pa_cons pe_str (pa_cons pe_str (pa_cons pe_str (pa_cons pe_str (pa_cons pe_str (pa_cons pe_str (pa_cons pe_str (pa_cons pe_str pa_nil)))))))))))
      (pss_cons (ps_set (i := 3) sc__law_some_names.nd rfl (Or.inl rfl) (pe_call G__law_take (hr.mono (by decide)) rfl g__law_take k__law_take b__law_take .nil pass0 (pa_cons (pv 0) (pa_cons (pe_callB call_len_seq (by rfl) T.n_len (by decide +kernel) (pa_cons (pv 2) pa_nil)) pa_nil))))
      (pss_one (ps_ret (pe_callB cr_sortedS (by rfl) n_sorted (by decide +kernel) (pa_cons (pe_lc (own := [("_law_name", 4)]) (g := (gName 4)) (tt := tYes) rfl sc__law_some_names.nd (pi_list (pe_slice sl_list (pe_op op_cat (pe_slice sl_list (pv 2) (po_some (pv 3)) po_none) (pe_slice sl_list (pv 2) po_none (po_some (pv 3)))) po_none (po_some (pv 1)))) (blkOk_by (N := N__law_some_names) (sc := defScope s__law_some_names) (by decide +kernel)) (fun _ _ _ _ _ => (pg_name (i := 4) sc__law_some_names.nd rfl (Or.inl rfl))) (fun _ _ _ _ _ => pts_nil) (fun _ _ _ _ _ => (pe_callTy SkE.call_str_str (by rfl) T.n_str (by decide +kernel) (pa_cons (pv 4) pa_nil)))) pa_nil)))))), ok_body (Z := ⟨K, κ⟩) (O := []) (js_seq (js_asg (j_lst (ja_cons j_str (ja_cons j_str (ja_cons j_str (ja_cons j_str (ja_cons j_str (ja_cons j_str (ja_cons j_str (ja_cons j_str (ja_cons j_str ja_nil)))))))))) (jg_name nin nofun))
      (js_seq (js_asg (j_callV via_id (ja_cons (j_var nin) (ja_cons (j_cb c_len (ja_consW (JD.w (j_var nin)) ja_nil)) ja_nil)) (len_cons (len_cons (fun _ _ _ _ h => len_nil h)))) (jg_name nin nofun))
      (js_ret (JD.w (j_cb c_sorted (ja_cons (j_lc (ji_list xCo (j_slL (JD.w (j_op upW r_catL (JD.w (j_slL (JD.w (j_var nin)) (jo_some (j_var nin)) jo_none)) (JD.w (j_slL (JD.w (j_var nin)) jo_none (jo_some (j_var nin)))))) jo_none (jo_some (j_var nin)))) (jg_name nin (fun w e => by cases e; decide)) jb_yes (j_cb c_strS (ja_cons (j_var nin) ja_nil))) ja_nil)))))) (fun _ m => absurd m List.not_mem_nil) h⟩)
theorem ok__law_reads {f : Addr} {fd : FuncData} (F : Fun K "_law_reads" "_law_reads" s__law_reads f fd) (T : TxD2 mg) (cL__law_take : Cal P w K mg base 1 "_law_take" P__law_take (spD ⟨K, κ⟩ 2 L__law_take)) (cL__law_of : Cal P w K mg base 2 "_law_of" P__law_of (spD ⟨K, κ⟩ 2 L__law_of)) : FnOk P w K mg base CX0 3 f fd P__law_reads (spD ⟨K, κ⟩ 4 L__law_reads) := by
  obtain ⟨f__law_take, fd__law_take, G__law_take, b__law_take, g__law_take, k__law_take⟩ := cL__law_take
  obtain ⟨f__law_of, fd__law_of, G__law_of, b__law_of, g__law_of, k__law_of⟩ := cL__law_of
  exact F.ok sc__law_reads (fun vs H Q E h => h.1) (fun cdv A outer s H vs Q E hr h => ⟨_, (pss_cons (ps_set (i := 4) sc__law_reads.nd rfl (Or.inl rfl) (pe_lst (pa_cons pe_str (pa_cons pe_str (pa_cons pe_str (pa_cons pe_str pa_nil))))))
      (pss_cons (ps_if (pt_not (pt_val (pv 2))) (pss_one (ps_set (i := 4) sc__law_reads.nd rfl (Or.inl rfl) (pe_ix ix_list (pe_lst (pa_cons (pe_lst (pa_cons pe_str (pa_cons pe_str (pa_cons pe_str (pa_cons pe_str pa_nil))))) (pa_cons (pe_lst (pa_cons pe_str (pa_cons pe_str (pa_cons pe_str (pa_cons pe_str pa_nil))))) pa_nil))) (pe_callTy call_int1 (by rfl) T.n_int (by decide +kernel) (pa_cons (pe_cmpR op_eq (pv 3) pe_str (nomark _)) pa_nil)) (fun _ _ => rfl)))) pss_nil)
      (pss_cons (ps_set (i := 5) sc__law_reads.nd rfl (Or.inl rfl) (pe_lst (pa_cons (pe_tup (pa_cons pe_str pa_nil)) (pa_cons (pe_tup (pa_cons pe_str pa_nil)) (pa_cons (pe_tup (pa_cons pe_str pa_nil)) (pa_cons (pe_tup (pa_cons pe_str (pa_cons pe_str pa_nil))) (pa_cons (pe_tup (pa_cons pe_str (pa_cons pe_str pa_nil))) (pa_cons (pe_tup (pa_cons pe_str pa_nil)) (pa_cons (pe_tup pa_nil) pa_nil)))))))))
      (pss_cons (ps_set (i := 5) sc__law_reads.nd rfl (Or.inl rfl) (pe_op op_cat (pv 5) (pe_lst (pa_cons (pe_tup (pa_cons pe_str (pa_cons pe_str (pa_cons pe_str pa_nil)))) (pa_cons (pe_tup (pa_cons pe_str (pa_cons pe_str pa_nil))) pa_nil)))))
      (pss_cons (ps_set (i := 6) sc__law_reads.nd rfl (Or.inl rfl) (pe_lst pa_nil))
      (pss_cons (ps_for PassesOwn.never rfl (pi_list (pv 1)) (pg_name (i := 7) sc__law_reads.nd rfl (Or.inl rfl)) (pss_one (ps_if (pt_cmpR op_gt (pe_call G__law_take (hr.mono (by decide)) rfl g__law_take k__law_take b__law_take .nil pass0 (pa_cons (pv 0) (pa_cons pe_int pa_nil))) pe_int (nomark _)) (pss_one (ps_expr (pe_bm PySem.F.plainAttrs_list PySem.F.slot_list_append PySem.F.type_list_append mt_append (pv 6) (pa_cons (pe_tup (pa_cons (pv 7) (pa_cons (pe_call G__law_of (hr.mono (by decide)) rfl g__law_of k__law_of b__law_of .nil pass0 (pa_cons (pv 0) (pa_cons (pv 4) pa_nil))) (pa_cons (pe_call G__law_of (hr.mono (by decide)) rfl g__law_of k__law_of b__law_of .nil pass0 (pa_cons (pv 0) (pa_cons (pv 5) pa_nil))) pa_nil)))) pa_nil)))) pss_nil)))
      (pss_one (ps_ret (pe_callTy call_tuple_of (by rfl) T.n_tuple (by decide +kernel) (pa_cons (pv 6) pa_nil)))))))))), ok_body (Z := ⟨K, κ⟩) (O := []) (js_seq (js_asg (j_lst (ja_cons j_str (ja_cons j_str (ja_cons j_str (ja_cons j_str ja_nil))))) (jg_name nin nofun))
      (js_seq (js_if (jb_not (jb_B (j_var nin))) (js_asg (j_op upW r_ixL (JD.w (j_lst (ja_cons (j_lst (ja_cons j_str (ja_cons j_str (ja_cons j_str (ja_cons j_str ja_nil))))) (ja_cons (j_lst (ja_cons j_str (ja_cons j_str (ja_cons j_str (ja_cons j_str ja_nil))))) ja_nil)))) (j_cb c_int (ja_cons (j_op upD r_eq (j_var nin) j_str) ja_nil))) (jg_name nin nofun)) js_next)
      (js_seq (js_asg (j_lst (ja_cons (j_tup (ja_cons j_str ja_nil)) (ja_cons (j_tup (ja_cons j_str ja_nil)) (ja_cons (j_tup (ja_cons j_str ja_nil)) (ja_cons (j_tup (ja_cons j_str (ja_cons j_str ja_nil))) (ja_cons (j_tup (ja_cons j_str (ja_cons j_str ja_nil))) (ja_cons (j_tup (ja_cons j_str ja_nil)) (ja_cons (j_tup ja_nil) ja_nil)))))))) (jg_name nin nofun))
      (js_seq (js_asg (j_op upW r_catL (JD.w (j_var nin)) (JD.w (j_lst (ja_cons (j_tup (ja_cons j_str (ja_cons j_str (ja_cons j_str ja_nil)))) (ja_cons (j_tup (ja_cons j_str (ja_cons j_str ja_nil))) ja_nil))))) (jg_name nin nofun))
      (js_seq (js_asg (j_newLo (jf_lst ja_nil)) (jg_name nin nofun))
      (js_seq (js_for (ji_list xS (j_var nin)) (jg_name nin nofun) (js_if (jb_test (j_op upD r_gt (j_callV via_id (ja_cons (j_var nin) (ja_cons j_int ja_nil)) (len_cons (len_cons (fun _ _ _ _ h => len_nil h)))) j_int)) (js_appLo (j_var nin) (ja_cons (j_tup (ja_cons (j_var nin) (ja_cons (j_callV via_id (ja_cons (j_var nin) (ja_cons (j_var nin) ja_nil)) (len_cons (len_cons (fun _ _ _ _ h => len_nil h)))) (ja_cons (j_callV via_id (ja_cons (j_var nin) (ja_cons (j_var nin) ja_nil)) (len_cons (len_cons (fun _ _ _ _ h => len_nil h)))) ja_nil)))) ja_nil)) js_next))
      (js_ret (JD.w (j_cb c_tupleLo (ja_cons (j_var nin) ja_nil)))))))))) (fun _ m => absurd m List.not_mem_nil) h⟩)
theorem ok__law_writes {f : Addr} {fd : FuncData} (F : Fun K "_law_writes" "_law_writes" s__law_writes f fd) (T : TxD2 mg) (cL__law_take : Cal P w K mg base 1 "_law_take" P__law_take (spD ⟨K, κ⟩ 2 L__law_take)) (cL__law_of : Cal P w K mg base 2 "_law_of" P__law_of (spD ⟨K, κ⟩ 2 L__law_of)) : FnOk P w K mg base CX0 3 f fd P__law_writes (spD ⟨K, κ⟩ 5 L__law_writes) := by
  obtain ⟨f__law_take, fd__law_take, G__law_take, b__law_take, g__law_take, k__law_take⟩ := cL__law_take
  obtain ⟨f__law_of, fd__law_of, G__law_of, b__law_of, g__law_of, k__law_of⟩ := cL__law_of
  exact F.ok sc__law_writes (fun vs H Q E h => h.1) (fun cdv A outer s H vs Q E hr h => ⟨_, (pss_cons (ps_set (i := 5) sc__law_writes.nd rfl (Or.inl rfl) (pe_lst pa_nil))
      (pss_cons (ps_for PassesOwn.never rfl (pi_list (pv 1)) (pg_name (i := 6) sc__law_writes.nd rfl (Or.inr rfl)) (pss_one (ps_if (pt_cmpR op_gt (pe_call G__law_take (hr.mono (by decide)) rfl g__law_take k__law_take b__law_take .nil pass0 (pa_cons (pv 0) (pa_cons pe_int pa_nil))) pe_int (nomark _)) (pss_cons (ps_set (i := 7) sc__law_writes.nd rfl (Or.inl rfl) pe_str)
      (pss_cons (ps_if (pt_not (pt_val (pv 3))) (pss_one (ps_set (i := 7) sc__law_writes.nd rfl (Or.inl rfl) (pe_call G__law_of (hr.mono (by decide)) rfl g__law_of k__law_of b__law_of .nil pass0 (pa_cons (pv 0) (pa_cons (pe_lst (pa_cons pe_str (pa_cons pe_str (pa_cons pe_str (pa_cons pe_str (pa_cons pe_str (pa_cons pe_str (pa_cons pe_str (pa_cons pe_str pa_nil))))))))) pa_nil))))) pss_nil)
      (pss_cons (ps_if (pt_cmpR (op_inS (neg := false) (Z := ⟨K, κ⟩) (hu70 hr) rfl) (pv 7) (pe_tup (pa_cons pe_str (pa_cons pe_str pa_nil))) rfl) (pss_cons (ps_set (i := 7) sc__law_writes.nd rfl (Or.inl rfl) (pe_ifExp (pt_cmpR op_gt (pe_ix ix_list (pv 4) pe_int (fun _ _ => rfl)) pe_int (nomark _)) (pv 7) pe_str))
      (pss_one (ps_asg (pe_op op_sub (pe_ix ix_list (pv 4) pe_int (fun _ _ => rfl)) pe_int) (pg_sub (pv 4) pe_int set_list)))) pss_nil)
      (pss_cons (ps_setLc (i := 8) (own := [("_law_row", 10)]) (g := (gName 10))  rfl sc__law_writes.nd rfl rfl (sw_true rfl rfl rfl (by decide +kernel)) (pi_tup (pv 2)) (blkOk_by (N := N__law_writes) (sc := defScope s__law_writes) (by decide +kernel)) (fun _ _ _ _ _ => (pg_name (i := 10) sc__law_writes.nd rfl (Or.inl rfl))) (fun _ _ _ _ _ => (pts_one (pt_cmpR op_ne (pe_ix ix_tup (pv 10) pe_int (fun _ _ => rfl)) (pv 6) (nomark _)))) (fun _ _ _ _ _ => (pe_ix ix_tup (pv 10) pe_int (fun _ _ => rfl))))
      (pss_cons (ps_set (i := 9) sc__law_writes.nd rfl (Or.inl rfl) (pe_call G__law_of (hr.mono (by decide)) rfl g__law_of k__law_of b__law_of .nil pass0 (pa_cons (pv 0) (pa_cons (pe_lst (pa_cons pe_str (pa_cons pe_str (pa_cons pe_str (pa_cons pe_str pa_nil))))) pa_nil))))
      (pss_one (ps_expr (pe_bm PySem.F.plainAttrs_list PySem.F.slot_list_append PySem.F.type_list_append mt_append (pv 5) (pa_cons (pe_tup (pa_cons (pv 6) (pa_cons (pv 7) (pa_cons (pv 9) (pa_cons (pe_call G__law_of (hr.mono (by decide)) rfl g__law_of k__law_of b__law_of .nil pass0 (pa_cons (pv 0) (pa_cons (pe_op op_cat (pe_lst (pa_cons pe_str (pa_cons pe_str (pa_cons pe_str pa_nil)))) (pv 8)) pa_nil))) (pa_cons (pe_call G__law_of (hr.mono (by decide)) rfl g__law_of k__law_of b__law_of .nil pass0 (pa_cons (pv 0) (pa_cons (pe_lst (pa_cons pe_int (pa_cons pe_int (pa_cons pe_int (pa_cons pe_int (pa_cons pe_int (pa_cons pe_int pa_nil))))))) pa_nil))) pa_nil)))))) pa_nil))))))))) pss_nil)))
      (pss_one (ps_ret (pe_callTy call_tuple_of (by rfl) T.n_tuple (by decide +kernel) (pa_cons (pv 5) pa_nil)))))), ok_body (Z := ⟨K, κ⟩) (O := []) (js_seq (js_asg (j_newLo (jf_lst ja_nil)) (jg_name nin nofun))
      (js_seq (js_for (ji_list xS (j_var nin)) (jg_name nin nofun) (js_if (jb_test (j_op upD r_gt (j_callV via_id (ja_cons (j_var nin) (ja_cons j_int ja_nil)) (len_cons (len_cons (fun _ _ _ _ h => len_nil h)))) j_int)) (js_seq (js_asg j_str (jg_name nin nofun))
      (js_seq (js_if (jb_not (jb_B (j_var nin))) (js_asg (j_callV via_id (ja_cons (j_var nin) (ja_cons (j_lst (ja_cons j_str (ja_cons j_str (ja_cons j_str (ja_cons j_str (ja_cons j_str (ja_cons j_str (ja_cons j_str (ja_cons j_str ja_nil))))))))) ja_nil)) (len_cons (len_cons (fun _ _ _ _ h => len_nil h)))) (jg_name nin nofun)) js_next)
      (js_seq (js_if (jb_test (j_op upD (r_inS (neg := false)) (j_var nin) (JD.w (j_tup (ja_cons j_str (ja_cons j_str ja_nil)))))) (js_seq (js_asg (j_if (jb_test (j_op upD r_gt (j_op upD r_ixLo (j_var nin) j_int) j_int)) (j_var nin) j_str) (jg_name nin nofun))
      (js_setLo nin j_int (j_op upD r_sub (j_op upD r_ixLo (j_var nin) j_int) j_int))) js_next)
      (js_seq (js_asg (j_lc (ji_tup xCo (j_var nin)) (jg_name nin (fun w e => by cases e; decide)) (jb_test (j_op upD r_ne (j_op upD r_ixT (j_var nin) j_int) (j_var nin))) (j_op upD r_ixT (j_var nin) j_int)) (jg_name nin nofun))
      (js_seq (js_asg (j_callV via_id (ja_cons (j_var nin) (ja_cons (j_lst (ja_cons j_str (ja_cons j_str (ja_cons j_str (ja_cons j_str ja_nil))))) ja_nil)) (len_cons (len_cons (fun _ _ _ _ h => len_nil h)))) (jg_name nin nofun))
      (js_appLo (j_var nin) (ja_cons (j_tup (ja_cons (j_var nin) (ja_cons (j_var nin) (ja_cons (j_var nin) (ja_cons (j_callV via_id (ja_cons (j_var nin) (ja_cons (j_op upW r_catL (JD.w (j_lst (ja_cons j_str (ja_cons j_str (ja_cons j_str ja_nil))))) (JD.w (j_var nin))) ja_nil)) (len_cons (len_cons (fun _ _ _ _ h => len_nil h)))) (ja_cons (j_callV via_id (ja_cons (j_var nin) (ja_cons (j_lst (ja_cons j_int (ja_cons j_int (ja_cons j_int (ja_cons j_int (ja_cons j_int (ja_cons j_int ja_nil))))))) ja_nil)) (len_cons (len_cons (fun _ _ _ _ h => len_nil h)))) ja_nil)))))) ja_nil))))))) js_next))
      (js_ret (JD.w (j_cb c_tupleLo (ja_cons (j_var nin) ja_nil)))))) (fun _ m => absurd m List.not_mem_nil) h⟩)
theorem ok__law_editions {f : Addr} {fd : FuncData} (F : Fun K "_law_editions" "_law_editions" s__law_editions f fd) (T : TxD2 mg) (cL__law_of : Cal P w K mg base 2 "_law_of" P__law_of (spD ⟨K, κ⟩ 2 L__law_of)) (cL__law_reads : Cal P w K mg base 3 "_law_reads" P__law_reads (spD ⟨K, κ⟩ 4 L__law_reads)) (cL__law_writes : Cal P w K mg base 3 "_law_writes" P__law_writes (spD ⟨K, κ⟩ 5 L__law_writes)) : FnOk P w K mg base CX0 4 f fd P__law_editions (spD ⟨K, κ⟩ 3 L__law_editions) := by
  obtain ⟨f__law_of, fd__law_of, G__law_of, b__law_of, g__law_of, k__law_of⟩ := cL__law_of
  obtain ⟨f__law_reads, fd__law_reads, G__law_reads, b__law_reads, g__law_reads, k__law_reads⟩ := cL__law_reads
  obtain ⟨f__law_writes, fd__law_writes, G__law_writes, b__law_writes, g__law_writes, k__law_writes⟩ := cL__law_writes
  exact F.ok sc__law_editions (fun vs H Q E h => h.1) (fun cdv A outer s H vs Q E hr h => ⟨_, (pss_cons (ps_set (i := 3) sc__law_editions.nd rfl (Or.inl rfl) (pe_lst pa_nil))
      (pss_cons (ps_for PassesOwn.never rfl (pi_range1 rfl T.n_range (pa_cons (pe_call G__law_of (hr.mono (by decide)) rfl g__law_of k__law_of b__law_of .nil pass0 (pa_cons (pv 0) (pa_cons (pe_lst (pa_cons pe_int (pa_cons pe_int (pa_cons pe_int (pa_cons pe_int pa_nil))))) pa_nil))) pa_nil)) (pg_name (i := 4) sc__law_editions.nd rfl (Or.inl rfl)) (pss_cons (ps_set (i := 5) sc__law_editions.nd rfl (Or.inl rfl) (pe_call G__law_of (hr.mono (by decide)) rfl g__law_of k__law_of b__law_of .nil pass0 (pa_cons (pv 0) (pa_cons (pe_ifExp (pt_cmpR op_eq (pv 4) pe_int (nomark _)) (pe_lst (pa_cons pe_str (pa_cons pe_str (pa_cons pe_str (pa_cons pe_str pa_nil))))) (pe_lst (pa_cons pe_str (pa_cons pe_str (pa_cons pe_str pa_nil))))) pa_nil))))
      (pss_cons (ps_set (i := 6) sc__law_editions.nd rfl (Or.inl rfl) (pe_call G__law_reads (hr.mono (by decide)) rfl g__law_reads k__law_reads b__law_reads .nil pass0 (pa_cons (pv 0) (pa_cons (pv 1) (pa_cons (pe_cmpR op_eq (pv 4) pe_int (nomark _)) (pa_cons (pv 5) pa_nil))))))
      (pss_one (ps_expr (pe_bm PySem.F.plainAttrs_list PySem.F.slot_list_append PySem.F.type_list_append mt_append (pv 3) (pa_cons (pe_tup (pa_cons (pv 5) (pa_cons (pv 6) (pa_cons (pe_call G__law_writes (hr.mono (by decide)) rfl g__law_writes k__law_writes b__law_writes .nil pass0 (pa_cons (pv 0) (pa_cons (pv 1) (pa_cons (pv 6) (pa_cons (pe_cmpR op_eq (pv 4) pe_int (nomark _)) (pa_cons (pv 2) pa_nil)))))) pa_nil)))) pa_nil)))))))
      (pss_one (ps_ret (pe_callTy call_tuple_of (by rfl) T.n_tuple (by decide +kernel) (pa_cons (pv 3) pa_nil)))))), ok_body (Z := ⟨K, κ⟩) (O := []) (js_seq (js_asg (j_newLo (jf_lst ja_nil)) (jg_name nin nofun))
      (js_seq (js_for (ji_rg1 (ja_cons (j_callV via_id (ja_cons (j_var nin) (ja_cons (j_lst (ja_cons j_int (ja_cons j_int (ja_cons j_int (ja_cons j_int ja_nil))))) ja_nil)) (len_cons (len_cons (fun _ _ _ _ h => len_nil h)))) ja_nil)) (jg_name nin nofun) (js_seq (js_asg (j_callV via_id (ja_cons (j_var nin) (ja_cons (j_if (jb_test (j_op upD r_eq (j_var nin) j_int)) (j_lst (ja_cons j_str (ja_cons j_str (ja_cons j_str (ja_cons j_str ja_nil))))) (j_lst (ja_cons j_str (ja_cons j_str (ja_cons j_str ja_nil))))) ja_nil)) (len_cons (len_cons (fun _ _ _ _ h => len_nil h)))) (jg_name nin nofun))
      (js_seq (js_asg (j_callV via_id (ja_cons (j_var nin) (ja_cons (j_var nin) (ja_cons (j_op upD r_eq (j_var nin) j_int) (ja_cons (j_var nin) ja_nil)))) (len_cons (len_cons (len_cons (len_cons (fun _ _ _ _ h => len_nil h)))))) (jg_name nin nofun))
      (js_appLo (j_var nin) (ja_cons (j_tup (ja_cons (j_var nin) (ja_cons (j_var nin) (ja_cons (j_callV via_id (ja_cons (j_var nin) (ja_cons (j_var nin) (ja_cons (j_var nin) (ja_cons (j_op upD r_eq (j_var nin) j_int) (ja_cons (j_var nin) ja_nil))))) (len_cons (len_cons (len_cons (len_cons (len_cons (fun _ _ _ _ h => len_nil h))))))) ja_nil)))) ja_nil)))))
      (js_ret (JD.w (j_cb c_tupleLo (ja_cons (j_var nin) ja_nil)))))) (fun _ m => absurd m List.not_mem_nil) h⟩)
theorem ok__law_world {f : Addr} {fd : FuncData} (F : Fun K "_law_world" "_law_world" s__law_world f fd) (T : TxD2 mg) (cL__law_of : Cal P w K mg base 2 "_law_of" P__law_of (spD ⟨K, κ⟩ 2 L__law_of)) (cL__law_some_names : Cal P w K mg base 2 "_law_some_names" P__law_some_names (spD ⟨K, κ⟩ 2 L__law_some_names)) (cL__law_editions : Cal P w K mg base 4 "_law_editions" P__law_editions (spD ⟨K, κ⟩ 3 L__law_editions)) : FnOk P w K mg base CX0 5 f fd P__law_world (spD ⟨K, κ⟩ 1 L__law_world) := by
  obtain ⟨f__law_of, fd__law_of, G__law_of, b__law_of, g__law_of, k__law_of⟩ := cL__law_of
  obtain ⟨f__law_some_names, fd__law_some_names, G__law_some_names, b__law_some_names, g__law_some_names, k__law_some_names⟩ := cL__law_some_names
  obtain ⟨f__law_editions, fd__law_editions, G__law_editions, b__law_editions, g__law_editions, k__law_editions⟩ := cL__law_editions
  exact F.ok sc__law_world (fun vs H Q E h => h.1) (fun cdv A outer s H vs Q E hr h => ⟨_, (pss_cons (ps_set (i := 1) sc__law_world.nd rfl (Or.inl rfl) (pe_lst (pa_cons (pe_tup (pa_cons (pe_tup (pa_cons pe_int (pa_cons pe_int pa_nil))) (pa_cons (pe_tup (pa_cons pe_int (pa_cons pe_int pa_nil))) pa_nil))) (pa_cons (pe_tup (pa_cons (pe_tup (pa_cons pe_int (pa_cons pe_int pa_nil))) (pa_cons (pe_tup (pa_cons pe_int (pa_cons pe_int pa_nil))) pa_nil))) (pa_cons (pe_tup (pa_cons (pe_tup (pa_cons (pe_un un_neg pe_int) (pa_cons pe_int pa_nil))) (pa_cons (pe_tup (pa_cons (pe_un un_neg pe_int) (pa_cons pe_int pa_nil))) pa_nil))) (pa_cons (pe_tup (pa_cons (pe_tup (pa_cons (pe_un un_neg pe_int) (pa_cons pe_int pa_nil))) (pa_cons (pe_tup (pa_cons (pe_un un_neg pe_int) (pa_cons pe_int pa_nil))) pa_nil))) pa_nil))))))
      (pss_cons (ps_asg (pe_call G__law_of (hr.mono (by decide)) rfl g__law_of k__law_of b__law_of .nil pass0 (pa_cons (pv 0) (pa_cons (pe_op op_cat (pv 1) (pe_lst (pa_cons (pe_tup (pa_cons (pe_tup (pa_cons pe_int (pa_cons pe_int pa_nil))) (pa_cons (pe_tup (pa_cons pe_int (pa_cons pe_int pa_nil))) pa_nil))) (pa_cons (pe_tup (pa_cons (pe_tup (pa_cons pe_int (pa_cons pe_int pa_nil))) (pa_cons (pe_tup (pa_cons pe_int (pa_cons pe_int pa_nil))) pa_nil))) pa_nil)))) pa_nil))) (pg_tup rfl (pgs_cons (pg_name (i := 2) sc__law_world.nd rfl (Or.inl rfl)) (pgs_cons (pg_name (i := 3) sc__law_world.nd rfl (Or.inl rfl)) pgs_nil))))
      (pss_cons (ps_set (i := 4) sc__law_world.nd rfl (Or.inl rfl) (pe_call G__law_some_names (hr.mono (by decide)) rfl g__law_some_names k__law_some_names b__law_some_names .nil pass0 (pa_cons (pv 0) (pa_cons (pe_call G__law_of (hr.mono (by decide)) rfl g__law_of k__law_of b__law_of .nil pass0 (pa_cons (pv 0) (pa_cons (pe_lst (pa_cons pe_int (pa_cons pe_int (pa_cons pe_int (pa_cons pe_int (pa_cons pe_int (pa_cons pe_int pa_nil))))))) pa_nil))) pa_nil))))
      (pss_cons (ps_set (i := 5) sc__law_world.nd rfl (Or.inl rfl) (pe_lst (pa_cons pe_int pa_nil)))
      (pss_cons (ps_set (i := 6) sc__law_world.nd rfl (Or.inl rfl) (pe_lst pa_nil))
      (pss_cons (ps_for PassesOwn.never rfl (pi_list (pe_call G__law_some_names (hr.mono (by decide)) rfl g__law_some_names k__law_some_names b__law_some_names .nil pass0 (pa_cons (pv 0) (pa_cons (pe_call G__law_of (hr.mono (by decide)) rfl g__law_of k__law_of b__law_of .nil pass0 (pa_cons (pv 0) (pa_cons (pe_lst (pa_cons pe_int (pa_cons pe_int (pa_cons pe_int (pa_cons pe_int (pa_cons pe_int (pa_cons pe_int pa_nil))))))) pa_nil))) pa_nil)))) (pg_name (i := 7) sc__law_world.nd rfl (Or.inl rfl)) (pss_one (ps_expr (pe_bm PySem.F.plainAttrs_list PySem.F.slot_list_append PySem.F.type_list_append mt_append (pv 6) (pa_cons (pe_tup (pa_cons (pv 7) (pa_cons (pe_call G__law_editions (hr.mono (by decide)) rfl g__law_editions k__law_editions b__law_editions .nil pass0 (pa_cons (pv 0) (pa_cons (pv 4) (pa_cons (pv 5) pa_nil)))) pa_nil))) pa_nil)))))
      (pss_one (ps_ret (pe_disp (pps_cons pe_str (pv 2) (pps_cons pe_str (pv 3) (pps_cons pe_str (pe_callTy call_tuple_of (by rfl) T.n_tuple (by decide +kernel) (pa_cons (pv 4) pa_nil)) (pps_cons pe_str (pe_callTy call_tuple_of (by rfl) T.n_tuple (by decide +kernel) (pa_cons (pv 6) pa_nil)) pps_nil)))) rfl rfl (by simp) (by decide)))))))))), ok_body (Z := ⟨K, κ⟩) (O := []) (js_seq (js_asg (j_lst (ja_cons (j_tup (ja_cons (j_tup (ja_cons j_int (ja_cons j_int ja_nil))) (ja_cons (j_tup (ja_cons j_int (ja_cons j_int ja_nil))) ja_nil))) (ja_cons (j_tup (ja_cons (j_tup (ja_cons j_int (ja_cons j_int ja_nil))) (ja_cons (j_tup (ja_cons j_int (ja_cons j_int ja_nil))) ja_nil))) (ja_cons (j_tup (ja_cons (j_tup (ja_cons (j_un u_neg j_int) (ja_cons j_int ja_nil))) (ja_cons (j_tup (ja_cons (j_un u_neg j_int) (ja_cons j_int ja_nil))) ja_nil))) (ja_cons (j_tup (ja_cons (j_tup (ja_cons (j_un u_neg j_int) (ja_cons j_int ja_nil))) (ja_cons (j_tup (ja_cons (j_un u_neg j_int) (ja_cons j_int ja_nil))) ja_nil))) ja_nil))))) (jg_name nin nofun))
      (js_seq (js_asg (j_callV via_id (ja_cons (j_var nin) (ja_cons (j_op upW r_catL (JD.w (j_var nin)) (JD.w (j_lst (ja_cons (j_tup (ja_cons (j_tup (ja_cons j_int (ja_cons j_int ja_nil))) (ja_cons (j_tup (ja_cons j_int (ja_cons j_int ja_nil))) ja_nil))) (ja_cons (j_tup (ja_cons (j_tup (ja_cons j_int (ja_cons j_int ja_nil))) (ja_cons (j_tup (ja_cons j_int (ja_cons j_int ja_nil))) ja_nil))) ja_nil))))) ja_nil)) (len_cons (len_cons (fun _ _ _ _ h => len_nil h)))) (jg_tup (jg_cons (jg_name nin nofun) (jg_cons (jg_name nin nofun) jg_nil))))
      (js_seq (js_asg (j_callV via_id (ja_cons (j_var nin) (ja_cons (j_callV via_id (ja_cons (j_var nin) (ja_cons (j_lst (ja_cons j_int (ja_cons j_int (ja_cons j_int (ja_cons j_int (ja_cons j_int (ja_cons j_int ja_nil))))))) ja_nil)) (len_cons (len_cons (fun _ _ _ _ h => len_nil h)))) ja_nil)) (len_cons (len_cons (fun _ _ _ _ h => len_nil h)))) (jg_name nin nofun))
      (js_seq (js_asg (j_newLo (jf_lst (ja_cons j_int ja_nil))) (jg_name nin nofun))
      (js_seq (js_asg (j_newLo (jf_lst ja_nil)) (jg_name nin nofun))
      (js_seq (js_for (ji_list xS (j_callV via_id (ja_cons (j_var nin) (ja_cons (j_callV via_id (ja_cons (j_var nin) (ja_cons (j_lst (ja_cons j_int (ja_cons j_int (ja_cons j_int (ja_cons j_int (ja_cons j_int (ja_cons j_int ja_nil))))))) ja_nil)) (len_cons (len_cons (fun _ _ _ _ h => len_nil h)))) ja_nil)) (len_cons (len_cons (fun _ _ _ _ h => len_nil h))))) (jg_name nin nofun) (js_appLo (j_var nin) (ja_cons (j_tup (ja_cons (j_var nin) (ja_cons (j_callV via_id (ja_cons (j_var nin) (ja_cons (j_var nin) (ja_cons (j_var nin) ja_nil))) (len_cons (len_cons (len_cons (fun _ _ _ _ h => len_nil h))))) ja_nil))) ja_nil)))
      (js_ret (JD.w (j_disp (.cons j_str (j_var nin) (.cons j_str (j_var nin) (.cons j_str (j_cb c_tuple (ja_consW (JD.w (j_var nin)) ja_nil)) (.cons j_str (j_cb c_tupleLo (ja_cons (j_var nin) ja_nil)) .nil))))))))))))) (fun _ m => absurd m List.not_mem_nil) h⟩)
theorem ok__law_made {f : Addr} {fd : FuncData} (F : Fun K "_law_made" "_law_made" s__law_made f fd) (T : TxD2 mg) (cL_World___init__ : MkI P w K mg base ⟨K, κ⟩ 7 "World" "World" P_World___init__ (spD ⟨K, κ⟩ 5 L_World___init__)) (cL_Kind___init__ : MkI P w K mg base ⟨K, κ⟩ 2 "Kind" "Kind" P_Kind___init__ (spD ⟨K, κ⟩ 3 L_Kind___init__)) : FnOk P w K mg base CX0 9 f fd P__law_made (spD ⟨K, κ⟩ 1 L__law_made) := by
  obtain ⟨f_World, fd_World, MK_World, G_World, b_World, g_World⟩ := cL_World___init__
  obtain ⟨f_Kind, fd_Kind, MK_Kind, G_Kind, b_Kind, g_Kind⟩ := cL_Kind___init__
  exact F.ok sc__law_made (fun vs H Q E h => h.1) (fun cdv A outer s H vs Q E hr h => ⟨_, (pss_cons (ps_par (i := 1) (j := 2) rfl sc__law_made.nd rfl rfl (by decide) rfl rfl (pa_cons (pe_dget (lt_units hr.units) (pv 0) pe_str (fun _ _ => rfl)) (pa_cons (pe_dget (lt_units hr.units) (pv 0) pe_str (fun _ _ => rfl)) pa_nil)) (by rfl))
      (pss_one (ps_ret (pe_make MK_World G_World (hr.mono (by decide)) rfl g_World b_World .nil pass0 (pa_cons (pe_make MK_Kind G_Kind (hr.mono (by decide)) rfl g_Kind b_Kind .nil pass0 (pa_cons (pe_ix ix_tup (pv 1) pe_int (fun _ _ => rfl)) (pa_cons (pe_ix ix_tup (pv 1) pe_int (fun _ _ => rfl)) pa_nil))) (pa_cons (pe_make MK_Kind G_Kind (hr.mono (by decide)) rfl g_Kind b_Kind .nil pass0 (pa_cons (pe_ix ix_tup (pv 2) pe_int (fun _ _ => rfl)) (pa_cons (pe_ix ix_tup (pv 2) pe_int (fun _ _ => rfl)) pa_nil))) (pa_cons (pe_dget (lt_units hr.units) (pv 0) pe_str (fun _ _ => rfl)) (pa_cons (pe_dget (lt_units hr.units) (pv 0) pe_str (fun _ _ => rfl)) pa_nil)))))))), ok_body (Z := ⟨K, κ⟩) (O := []) (js_seq (js_par nin nin (ja_cons (j_dget (JD.w (j_var nin)) j_str) (ja_cons (j_dget (JD.w (j_var nin)) j_str) ja_nil)))
      (js_ret (JD.w (j_makeV mk_F (ja_cons (j_makeV mk_F (ja_cons (j_op upD r_ixT (j_var nin) j_int) (ja_cons (j_op upD r_ixT (j_var nin) j_int) ja_nil)) (len_cons (len_cons (fun _ _ _ _ h => len_nil h)))) (ja_cons (j_makeV mk_F (ja_cons (j_op upD r_ixT (j_var nin) j_int) (ja_cons (j_op upD r_ixT (j_var nin) j_int) ja_nil)) (len_cons (len_cons (fun _ _ _ _ h => len_nil h)))) (ja_cons (j_dget (JD.w (j_var nin)) j_str) (ja_cons (j_dget (JD.w (j_var nin)) j_str) ja_nil)))) (len_cons (len_cons (len_cons (len_cons (fun _ _ _ _ h => len_nil h))))))))) (fun _ m => absurd m List.not_mem_nil) h⟩)
theorem ok__law_is_fit {f : Addr} {fd : FuncData} (F : Fun K "_law_is_fit" "_law_is_fit" s__law_is_fit f fd) (T : TxD2 mg) : FnOk P w K mg base CX0 1 f fd P__law_is_fit (spD ⟨K, κ⟩ 3 L__law_is_fit) := by
  exact F.ok sc__law_is_fit (fun vs H Q E h => h.1) (fun cdv A outer s H vs Q E hr h => ⟨_, (pss_cons (ps_asg (pe_dget (lt_units hr.units) (pv 0) pe_str (fun _ _ => rfl)) (pg_tup rfl (pgs_cons (pg_name (i := 3) sc__law_is_fit.nd rfl (Or.inl rfl)) (pgs_cons (pg_name (i := 4) sc__law_is_fit.nd rfl (Or.inl rfl)) pgs_nil))))
      (pss_cons (ps_if (pt_not (pt_chain3 op_le op_le op_le (pv 3) (pv 1) (pv 2) (pe_ix ix_tup (pe_dget (lt_units hr.units) (pv 0) pe_str (fun _ _ => rfl)) pe_int (fun _ _ => rfl)))) (pss_one (ps_ret pe_bl)) pss_nil)
      (pss_cons (ps_set (i := 5) sc__law_is_fit.nd rfl (Or.inl rfl) (pe_op op_add (pe_op op_sub (pe_callB (call_min2 rfl) (by rfl) T.n_min (by decide +kernel) (pa_cons (pe_callTy call_int1 (by rfl) T.n_int (by decide +kernel) (pa_cons (pv 2) pa_nil)) (pa_cons (pe_callTy call_int1 (by rfl) T.n_int (by decide +kernel) (pa_cons (pv 4) pa_nil)) pa_nil))) (pv 1)) pe_int))
      (pss_cons (ps_set (i := 6) sc__law_is_fit.nd rfl (Or.inl rfl) (pe_op op_add (pe_op op_sub (pv 2) (pe_callB (call_max2 rfl) (by rfl) T.n_max (by decide +kernel) (pa_cons (pe_callTy call_int1 (by rfl) T.n_int (by decide +kernel) (pa_cons (pv 1) pa_nil)) (pa_cons (pe_op op_add (pv 4) pe_int) pa_nil)))) pe_int))
      (pss_one (ps_ret (pe_and (pe_or (pe_cmpR op_le (pv 5) pe_int (nomark _)) (pe_one (pe_cmpR op_ge (pv 5) pe_int (nomark _)))) (pe_one (pe_or (pe_cmpR op_le (pv 6) pe_int (nomark _)) (pe_one (pe_cmpR op_ge (pv 6) pe_int (nomark _)))))))))))), ok_body (Z := ⟨K, κ⟩) (O := []) (js_seq (js_asg (j_dget (JD.w (j_var nin)) j_str) (jg_tup (jg_cons (jg_name nin nofun) (jg_cons (jg_name nin nofun) jg_nil))))
      (js_seq (js_if (jb_not (jb_test (j_chain3 r_le r_le r_le (j_var nin) (j_var nin) (j_var nin) (j_op upD r_ixT (j_dget (JD.w (j_var nin)) j_str) j_int)))) (js_ret (JD.w j_bl)) js_next)
      (js_seq (js_asg (j_op upD r_add (j_op upD r_sub (j_cb c_min (ja_cons (j_cb c_int (ja_cons (j_var nin) ja_nil)) (ja_cons (j_cb c_int (ja_cons (j_var nin) ja_nil)) ja_nil))) (j_var nin)) j_int) (jg_name nin nofun))
      (js_seq (js_asg (j_op upD r_add (j_op upD r_sub (j_var nin) (j_cb c_max (ja_cons (j_cb c_int (ja_cons (j_var nin) ja_nil)) (ja_cons (j_op upD r_add (j_var nin) j_int) ja_nil)))) j_int) (jg_name nin nofun))
      (js_ret (JD.w (j_andV (j_orV (j_op upD r_le (j_var nin) j_int) (j_op upD r_ge (j_var nin) j_int)) (j_orV (j_op upD r_le (j_var nin) j_int) (j_op upD r_ge (j_var nin) j_int))))))))) (fun _ m => absurd m List.not_mem_nil) h⟩)
theorem ok__law_span {f : Addr} {fd : FuncData} (F : Fun K "_law_span" "_law_span" s__law_span f fd) (T : TxD2 mg) (cL__law_of : Cal P w K mg base 2 "_law_of" P__law_of (spD ⟨K, κ⟩ 2 L__law_of)) (cL__law_is_fit : Cal P w K mg base 1 "_law_is_fit" P__law_is_fit (spD ⟨K, κ⟩ 3 L__law_is_fit)) : FnOk P w K mg base CX0 3 f fd P__law_span (spD ⟨K, κ⟩ 2 L__law_span) := by
  obtain ⟨f__law_of, fd__law_of, G__law_of, b__law_of, g__law_of, k__law_of⟩ := cL__law_of
  obtain ⟨f__law_is_fit, fd__law_is_fit, G__law_is_fit, b__law_is_fit, g__law_is_fit, k__law_is_fit⟩ := cL__law_is_fit
  exact F.ok sc__law_span (fun vs H Q E h => h.1) (fun cdv A outer s H vs Q E hr h => ⟨_, (pss_cons (ps_asg (pe_dget (lt_units hr.units) (pv 1) pe_str (fun _ _ => rfl)) (pg_tup rfl (pgs_cons (pg_name (i := 2) sc__law_span.nd rfl (Or.inl rfl)) (pgs_cons (pg_name (i := 3) sc__law_span.nd rfl (Or.inl rfl)) pgs_nil))))
      (pss_cons (ps_set (i := 4) sc__law_span.nd rfl (Or.inl rfl) (pe_lst (pa_cons (pe_tup (pa_cons (pv 2) (pa_cons (pv 3) pa_nil))) (pa_cons (pe_tup (pa_cons (pv 2) (pa_cons (pv 3) pa_nil))) (pa_cons (pe_tup (pa_cons (pv 2) (pa_cons (pe_op op_add (pv 2) pe_int) pa_nil))) (pa_cons (pe_tup (pa_cons (pe_op op_add (pv 2) pe_int) (pa_cons (pe_op op_sub (pv 3) pe_int) pa_nil))) (pa_cons (pe_tup (pa_cons (pe_op op_sub (pv 3) pe_int) (pa_cons (pv 3) pa_nil))) (pa_cons (pe_tup (pa_cons (pv 2) (pa_cons (pe_op op_add (pv 3) pe_int) pa_nil))) pa_nil))))))))
      (pss_cons (ps_set (i := 4) sc__law_span.nd rfl (Or.inl rfl) (pe_op op_cat (pv 4) (pe_lst (pa_cons (pe_tup (pa_cons (pv 2) (pa_cons (pe_op op_add (pv 3) pe_int) pa_nil))) (pa_cons (pe_tup (pa_cons (pe_op op_add (pv 3) pe_int) (pa_cons (pe_op op_add (pv 3) pe_int) pa_nil))) (pa_cons (pe_tup (pa_cons (pe_op op_add (pv 2) pe_int) (pa_cons (pe_op op_add (pv 2) pe_int) pa_nil))) (pa_cons (pe_tup (pa_cons (pv 2) (pa_cons (pe_ix ix_tup (pe_dget (lt_units hr.units) (pv 1) pe_str (fun _ _ => rfl)) pe_int (fun _ _ => rfl)) pa_nil))) pa_nil)))))))
      (pss_one (ps_ret (pe_call G__law_of (hr.mono (by decide)) rfl g__law_of k__law_of b__law_of .nil pass0 (pa_cons (pv 0) (pa_cons (pe_lc (own := [("_law_span_here", 5)]) (g := (gName 5))  rfl sc__law_span.nd (pi_list (pv 4)) (blkOk_by (N := N__law_span) (sc := defScope s__law_span) (by decide +kernel)) (fun _ _ _ _ _ => (pg_name (i := 5) sc__law_span.nd rfl (Or.inl rfl))) (fun _ _ _ _ _ => (pts_one (pt_val (pe_call G__law_is_fit (hr.mono (by decide)) rfl g__law_is_fit k__law_is_fit b__law_is_fit .nil pass0 (pa_cons (pv 1) (pa_cons (pe_ix ix_tup (pv 5) pe_int (fun _ _ => rfl)) (pa_cons (pe_ix ix_tup (pv 5) pe_int (fun _ _ => rfl)) pa_nil))))))) (fun _ _ _ _ _ => (pv 5))) pa_nil)))))))), ok_body (Z := ⟨K, κ⟩) (O := []) (js_seq (js_asg (j_dget (JD.w (j_var nin)) j_str) (jg_tup (jg_cons (jg_name nin nofun) (jg_cons (jg_name nin nofun) jg_nil))))
      (js_seq (js_asg (j_lst (ja_cons (j_tup (ja_cons (j_var nin) (ja_cons (j_var nin) ja_nil))) (ja_cons (j_tup (ja_cons (j_var nin) (ja_cons (j_var nin) ja_nil))) (ja_cons (j_tup (ja_cons (j_var nin) (ja_cons (j_op upD r_add (j_var nin) j_int) ja_nil))) (ja_cons (j_tup (ja_cons (j_op upD r_add (j_var nin) j_int) (ja_cons (j_op upD r_sub (j_var nin) j_int) ja_nil))) (ja_cons (j_tup (ja_cons (j_op upD r_sub (j_var nin) j_int) (ja_cons (j_var nin) ja_nil))) (ja_cons (j_tup (ja_cons (j_var nin) (ja_cons (j_op upD r_add (j_var nin) j_int) ja_nil))) ja_nil))))))) (jg_name nin nofun))
      (js_seq (js_asg (j_op upW r_catL (JD.w (j_var nin)) (JD.w (j_lst (ja_cons (j_tup (ja_cons (j_var nin) (ja_cons (j_op upD r_add (j_var nin) j_int) ja_nil))) (ja_cons (j_tup (ja_cons (j_op upD r_add (j_var nin) j_int) (ja_cons (j_op upD r_add (j_var nin) j_int) ja_nil))) (ja_cons (j_tup (ja_cons (j_op upD r_add (j_var nin) j_int) (ja_cons (j_op upD r_add (j_var nin) j_int) ja_nil))) (ja_cons (j_tup (ja_cons (j_var nin) (ja_cons (j_op upD r_ixT (j_dget (JD.w (j_var nin)) j_str) j_int) ja_nil))) ja_nil))))))) (jg_name nin nofun))
      (js_ret (JD.w (j_callV via_id (ja_cons (j_var nin) (ja_cons (j_lc (ji_list xCo (j_var nin)) (jg_name nin (fun w e => by cases e; decide)) (jb_B (j_callV via_id (ja_cons (j_var nin) (ja_cons (j_op upD r_ixT (j_var nin) j_int) (ja_cons (j_op upD r_ixT (j_var nin) j_int) ja_nil))) (len_cons (len_cons (len_cons (fun _ _ _ _ h => len_nil h)))))) (j_var nin)) ja_nil)) (len_cons (len_cons (fun _ _ _ _ h => len_nil h))))))))) (fun _ m => absurd m List.not_mem_nil) h⟩)
theorem ok__law_first_state {f : Addr} {fd : FuncData} (F : Fun K "_law_first_state" "_law_first_state" s__law_first_state f fd) (T : TxD2 mg) : FnOk P w K mg base CX0 1 f fd P__law_first_state (spD ⟨K, κ⟩ 2 L__law_first_state) := by
  exact F.ok sc__law_first_state (fun vs H Q E h => h.1) (fun cdv A outer s H vs Q E hr h => ⟨_, (pss_one (ps_ret (pe_disp (pps_cons pe_str (pv 0) (pps_cons pe_str (pe_callTy (call_dictP rfl) (by rfl) T.n_dict (by decide +kernel) (pa_cons (pe_lc (own := [("_law_name", 2), ("_law_editions_here", 3)]) (g := (gTup _ 2 (gCons (gName 2) (gCons (gName 3) gNil)))) (tt := tYes) rfl sc__law_first_state.nd (pi_tup (pe_dget (lt_units hr.units) (pv 0) pe_str (fun _ _ => rfl))) (blkOk_by (N := N__law_first_state) (sc := defScope s__law_first_state) (by decide +kernel)) (fun _ _ _ _ _ => (pg_tup rfl (pgs_cons (pg_name (i := 2) sc__law_first_state.nd rfl (Or.inl rfl)) (pgs_cons (pg_name (i := 3) sc__law_first_state.nd rfl (Or.inl rfl)) pgs_nil)))) (fun _ _ _ _ _ => pts_nil) (fun _ _ _ _ _ => (pe_tup (pa_cons (pv 2) (pa_cons (pe_tup (pa_cons pe_int pa_nil)) pa_nil))))) pa_nil)) (pps_cons pe_str (pe_callTy (call_dictP rfl) (by rfl) T.n_dict (by decide +kernel) (pa_cons (pe_lc (own := [("_law_column", 4)]) (g := (gName 4)) (tt := tYes) rfl sc__law_first_state.nd (pi_tup (pe_dget (lt_units hr.units) (pv 0) pe_str (fun _ _ => rfl))) (blkOk_by (N := N__law_first_state) (sc := defScope s__law_first_state) (by decide +kernel)) (fun _ _ _ _ _ => (pg_name (i := 4) sc__law_first_state.nd rfl (Or.inl rfl))) (fun _ _ _ _ _ => pts_nil) (fun _ _ _ _ _ => (pe_tup (pa_cons (pv 4) (pa_cons pe_str pa_nil))))) pa_nil)) (pps_cons pe_str pe_dnewK (pps_cons pe_str (pe_tup pa_nil) (pps_cons pe_str (pe_ix ix_tup (pv 1) pe_int (fun _ _ => rfl)) (pps_cons pe_str (pe_ix ix_tup (pv 1) pe_int (fun _ _ => rfl)) (pps_cons pe_str (pe_tup (pa_cons (pe_ix ix_tup (pv 1) pe_int (fun _ _ => rfl)) pa_nil)) pps_nil)))))))) rfl rfl (by simp) (by decide)))), ok_body (Z := ⟨K, κ⟩) (O := []) (js_ret (JD.w (j_disp (.cons j_str (j_var nin) (.cons j_str (j_cb c_dictP (ja_cons (j_lc (ji_tup xCo (j_dget (JD.w (j_var nin)) j_str)) (jg_tup (jg_cons (jg_name nin (fun w e => by cases e; decide)) (jg_cons (jg_name nin (fun w e => by cases e; decide)) jg_nil))) jb_yes (j_tup (ja_cons (j_var nin) (ja_cons (j_tup (ja_cons j_int ja_nil)) ja_nil)))) ja_nil)) (.cons j_str (j_cb c_dictP (ja_cons (j_lc (ji_tup xCo (j_dget (JD.w (j_var nin)) j_str)) (jg_name nin (fun w e => by cases e; decide)) jb_yes (j_tup (ja_cons (j_var nin) (ja_cons j_str ja_nil)))) ja_nil)) (.cons j_str (JF.d jf_dic0) (.cons j_str (j_tup ja_nil) (.cons j_str (j_op upD r_ixT (j_var nin) j_int) (.cons j_str (j_op upD r_ixT (j_var nin) j_int) (.cons j_str (j_tup (ja_cons (j_op upD r_ixT (j_var nin) j_int) ja_nil)) .nil))))))))))) (fun _ m => absurd m List.not_mem_nil) h⟩)
theorem ok__law_column_steps {f : Addr} {fd : FuncData} (F : Fun K "_law_column_steps" "_law_column_steps" s__law_column_steps f fd) (T : TxD2 mg) (cL__law_of : Cal P w K mg base 2 "_law_of" P__law_of (spD ⟨K, κ⟩ 2 L__law_of)) : FnOk P w K mg base CX0 3 f fd P__law_column_steps (spD ⟨K, κ⟩ 2 L__law_column_steps) := by
  obtain ⟨f__law_of, fd__law_of, G__law_of, b__law_of, g__law_of, k__law_of⟩ := cL__law_of
  exact F.ok sc__law_column_steps (fun vs H Q E h => h.1) (fun cdv A outer s H vs Q E hr h => ⟨_, (pss_cons (ps_par (i := 2) (j := 3) rfl sc__law_column_steps.nd rfl rfl (by decide) rfl rfl (pa_cons (pe_call G__law_of (hr.mono (by decide)) rfl g__law_of k__law_of b__law_of .nil pass0 (pa_cons (pv 0) (pa_cons (pe_lst (pa_cons pe_str (pa_cons pe_str (pa_cons pe_str pa_nil)))) pa_nil))) (pa_cons (pe_call G__law_of (hr.mono (by decide)) rfl g__law_of k__law_of b__law_of .nil pass0 (pa_cons (pv 0) (pa_cons (pe_lst (pa_cons pe_str (pa_cons pe_str pa_nil))) pa_nil))) pa_nil)) (by rfl))
      (pss_cons (ps_set (i := 4) sc__law_column_steps.nd rfl (Or.inl rfl) (pe_lst (pa_cons (pe_tup (pa_cons pe_str (pa_cons (pv 1) pa_nil))) (pa_cons (pe_tup (pa_cons pe_str (pa_cons (pv 1) pa_nil))) (pa_cons (pe_tup (pa_cons pe_str (pa_cons (pv 1) (pa_cons (pv 2) pa_nil)))) (pa_cons (pe_tup (pa_cons pe_str (pa_cons (pv 1) (pa_cons (pv 3) pa_nil)))) (pa_cons (pe_tup (pa_cons pe_str (pa_cons (pv 1) pa_nil))) pa_nil)))))))
      (pss_cons (ps_set (i := 4) sc__law_column_steps.nd rfl (Or.inl rfl) (pe_op op_cat (pv 4) (pe_lst (pa_cons (pe_tup (pa_cons pe_str (pa_cons (pv 1) pa_nil))) (pa_cons (pe_tup (pa_cons pe_str (pa_cons (pv 1) (pa_cons (pv 3) (pa_cons (pv 2) pa_nil))))) (pa_cons (pe_tup (pa_cons pe_str (pa_cons (pv 1) (pa_cons pe_str pa_nil)))) pa_nil))))))
      (pss_one (ps_ret (pe_op op_cat (pv 4) (pe_lst (pa_cons (pe_tup (pa_cons pe_str (pa_cons (pv 1) (pa_cons pe_str pa_nil)))) pa_nil)))))))), ok_body (Z := ⟨K, κ⟩) (O := []) (js_seq (js_par nin nin (ja_cons (j_callV via_id (ja_cons (j_var nin) (ja_cons (j_lst (ja_cons j_str (ja_cons j_str (ja_cons j_str ja_nil)))) ja_nil)) (len_cons (len_cons (fun _ _ _ _ h => len_nil h)))) (ja_cons (j_callV via_id (ja_cons (j_var nin) (ja_cons (j_lst (ja_cons j_str (ja_cons j_str ja_nil))) ja_nil)) (len_cons (len_cons (fun _ _ _ _ h => len_nil h)))) ja_nil)))
      (js_seq (js_asg (j_lst (ja_cons (j_tup (ja_cons j_str (ja_cons (j_var nin) ja_nil))) (ja_cons (j_tup (ja_cons j_str (ja_cons (j_var nin) ja_nil))) (ja_cons (j_tup (ja_cons j_str (ja_cons (j_var nin) (ja_cons (j_var nin) ja_nil)))) (ja_cons (j_tup (ja_cons j_str (ja_cons (j_var nin) (ja_cons (j_var nin) ja_nil)))) (ja_cons (j_tup (ja_cons j_str (ja_cons (j_var nin) ja_nil))) ja_nil)))))) (jg_name nin nofun))
      (js_seq (js_asg (j_op upW r_catL (JD.w (j_var nin)) (JD.w (j_lst (ja_cons (j_tup (ja_cons j_str (ja_cons (j_var nin) ja_nil))) (ja_cons (j_tup (ja_cons j_str (ja_cons (j_var nin) (ja_cons (j_var nin) (ja_cons (j_var nin) ja_nil))))) (ja_cons (j_tup (ja_cons j_str (ja_cons (j_var nin) (ja_cons j_str ja_nil)))) ja_nil)))))) (jg_name nin nofun))
      (js_ret (JD.w (j_op upW r_catL (JD.w (j_var nin)) (JD.w (j_lst (ja_cons (j_tup (ja_cons j_str (ja_cons (j_var nin) (ja_cons j_str ja_nil)))) ja_nil))))))))) (fun _ m => absurd m List.not_mem_nil) h⟩)
theorem ok__law_span_steps {f : Addr} {fd : FuncData} (F : Fun K "_law_span_steps" "_law_span_steps" s__law_span_steps f fd) (T : TxD2 mg) (cL__law_take : Cal P w K mg base 1 "_law_take" P__law_take (spD ⟨K, κ⟩ 2 L__law_take)) (cL__law_of : Cal P w K mg base 2 "_law_of" P__law_of (spD ⟨K, κ⟩ 2 L__law_of)) : FnOk P w K mg base CX0 3 f fd P__law_span_steps (spD ⟨K, κ⟩ 2 L__law_span_steps) := by
  obtain ⟨f__law_take, fd__law_take, G__law_take, b__law_take, g__law_take, k__law_take⟩ := cL__law_take
  obtain ⟨f__law_of, fd__law_of, G__law_of, b__law_of, g__law_of, k__law_of⟩ := cL__law_of
  exact F.ok sc__law_span_steps (fun vs H Q E h => h.1) (fun cdv A outer s H vs Q E hr h => ⟨_, (pss_cons (ps_par3 (i := 2) (j := 3) (l := 4) rfl sc__law_span_steps.nd rfl rfl rfl (by decide) (by decide) (by decide) rfl rfl rfl (pa_cons (pe_ix ix_tup (pe_dget (lt_units hr.units) (pe_dget (lt_units hr.units) (pv 1) pe_str (fun _ _ => rfl)) pe_str (fun _ _ => rfl)) pe_int (fun _ _ => rfl)) (pa_cons (pe_dget (lt_units hr.units) (pv 1) pe_str (fun _ _ => rfl)) (pa_cons (pe_dget (lt_units hr.units) (pv 1) pe_str (fun _ _ => rfl)) pa_nil))) (by rfl))
      (pss_cons (ps_set (i := 5) sc__law_span_steps.nd rfl (Or.inl rfl) (pe_ix ix_tup (pe_dget (lt_units hr.units) (pe_dget (lt_units hr.units) (pv 1) pe_str (fun _ _ => rfl)) pe_str (fun _ _ => rfl)) pe_int (fun _ _ => rfl)))
      (pss_cons (ps_set (i := 6) sc__law_span_steps.nd rfl (Or.inl rfl) (pe_lst (pa_cons (pe_op op_add (pv 3) pe_int) (pa_cons (pe_op op_add (pv 2) pe_int) (pa_cons (pe_op op_add (pv 2) pe_int) (pa_cons (pe_op op_add (pv 3) pe_int) (pa_cons (pv 5) (pa_cons (pe_op op_add (pe_op op_add (pv 3) pe_int) (pe_call G__law_take (hr.mono (by decide)) rfl g__law_take k__law_take b__law_take .nil pass0 (pa_cons (pv 0) (pa_cons pe_int pa_nil)))) (pa_cons (pe_op op_add (pv 5) pe_int) pa_nil)))))))))
      (pss_cons (ps_set (i := 7) sc__law_span_steps.nd rfl (Or.inl rfl) (pe_lst (pa_cons (pe_op op_add (pv 4) pe_int) (pa_cons (pe_op op_sub (pv 2) pe_int) (pa_cons (pe_op op_sub (pv 2) pe_int) (pa_cons (pe_op op_add (pv 2) pe_int) (pa_cons (pv 3) (pa_cons (pe_op op_sub (pv 3) pe_int) (pa_cons (pe_op op_sub (pv 3) pe_int) (pa_cons (pe_op op_add (pe_op op_add (pv 4) pe_int) (pe_call G__law_take (hr.mono (by decide)) rfl g__law_take k__law_take b__law_take .nil pass0 (pa_cons (pv 0) (pa_cons pe_int pa_nil)))) pa_nil))))))))))
      (pss_one (ps_ret (pe_lst (pa_cons (pe_tup (pa_cons pe_str (pa_cons (pe_call G__law_of (hr.mono (by decide)) rfl g__law_of k__law_of b__law_of .nil pass0 (pa_cons (pv 0) (pa_cons (pv 6) pa_nil))) pa_nil))) (pa_cons (pe_tup (pa_cons pe_str (pa_cons (pe_call G__law_of (hr.mono (by decide)) rfl g__law_of k__law_of b__law_of .nil pass0 (pa_cons (pv 0) (pa_cons (pv 7) pa_nil))) pa_nil))) pa_nil))))))))), ok_body (Z := ⟨K, κ⟩) (O := []) (js_seq (js_par3 nin nin nin (ja_cons (j_op upD r_ixT (j_dget (JD.w (j_dget (JD.w (j_var nin)) j_str)) j_str) j_int) (ja_cons (j_dget (JD.w (j_var nin)) j_str) (ja_cons (j_dget (JD.w (j_var nin)) j_str) ja_nil))))
      (js_seq (js_asg (j_op upD r_ixT (j_dget (JD.w (j_dget (JD.w (j_var nin)) j_str)) j_str) j_int) (jg_name nin nofun))
      (js_seq (js_asg (j_lst (ja_cons (j_op upD r_add (j_var nin) j_int) (ja_cons (j_op upD r_add (j_var nin) j_int) (ja_cons (j_op upD r_add (j_var nin) j_int) (ja_cons (j_op upD r_add (j_var nin) j_int) (ja_cons (j_var nin) (ja_cons (j_op upD r_add (j_op upD r_add (j_var nin) j_int) (j_callV via_id (ja_cons (j_var nin) (ja_cons j_int ja_nil)) (len_cons (len_cons (fun _ _ _ _ h => len_nil h))))) (ja_cons (j_op upD r_add (j_var nin) j_int) ja_nil)))))))) (jg_name nin nofun))
      (js_seq (js_asg (j_lst (ja_cons (j_op upD r_add (j_var nin) j_int) (ja_cons (j_op upD r_sub (j_var nin) j_int) (ja_cons (j_op upD r_sub (j_var nin) j_int) (ja_cons (j_op upD r_add (j_var nin) j_int) (ja_cons (j_var nin) (ja_cons (j_op upD r_sub (j_var nin) j_int) (ja_cons (j_op upD r_sub (j_var nin) j_int) (ja_cons (j_op upD r_add (j_op upD r_add (j_var nin) j_int) (j_callV via_id (ja_cons (j_var nin) (ja_cons j_int ja_nil)) (len_cons (len_cons (fun _ _ _ _ h => len_nil h))))) ja_nil))))))))) (jg_name nin nofun))
      (js_ret (JD.w (j_lst (ja_cons (j_tup (ja_cons j_str (ja_cons (j_callV via_id (ja_cons (j_var nin) (ja_cons (j_var nin) ja_nil)) (len_cons (len_cons (fun _ _ _ _ h => len_nil h)))) ja_nil))) (ja_cons (j_tup (ja_cons j_str (ja_cons (j_callV via_id (ja_cons (j_var nin) (ja_cons (j_var nin) ja_nil)) (len_cons (len_cons (fun _ _ _ _ h => len_nil h)))) ja_nil))) ja_nil))))))))) (fun _ m => absurd m List.not_mem_nil) h⟩)
theorem ok__law_menu {f : Addr} {fd : FuncData} (F : Fun K "_law_menu" "_law_menu" s__law_menu f fd) (T : TxD2 mg) (cL__law_of : Cal P w K mg base 2 "_law_of" P__law_of (spD ⟨K, κ⟩ 2 L__law_of)) (cL__law_column_steps : Cal P w K mg base 3 "_law_column_steps" P__law_column_steps (spD ⟨K, κ⟩ 2 L__law_column_steps)) (cL__law_span_steps : Cal P w K mg base 3 "_law_span_steps" P__law_span_steps (spD ⟨K, κ⟩ 2 L__law_span_steps)) : FnOk P w K mg base CX0 4 f fd P__law_menu (spD ⟨K, κ⟩ 2 L__law_menu) := by
  obtain ⟨f__law_of, fd__law_of, G__law_of, b__law_of, g__law_of, k__law_of⟩ := cL__law_of
  obtain ⟨f__law_column_steps, fd__law_column_steps, G__law_column_steps, b__law_column_steps, g__law_column_steps, k__law_column_steps⟩ := cL__law_column_steps
  obtain ⟨f__law_span_steps, fd__law_span_steps, G__law_span_steps, b__law_span_steps, g__law_span_steps, k__law_span_steps⟩ := cL__law_span_steps
  exact F.ok sc__law_menu (fun vs H Q E h => h.1) (fun cdv A outer s H vs Q E hr h => ⟨_, (pss_cons (ps_set (i := 2) sc__law_menu.nd rfl (Or.inl rfl) (pe_call G__law_of (hr.mono (by decide)) rfl g__law_of k__law_of b__law_of .nil pass0 (pa_cons (pv 0) (pa_cons (pe_callTy call_list_of (by rfl) T.n_list (by decide +kernel) (pa_cons (pe_dget (lt_units hr.units) (pe_dget (lt_units hr.units) (pv 1) pe_str (fun _ _ => rfl)) pe_str (fun _ _ => rfl)) pa_nil)) pa_nil))))
      (pss_cons (ps_set (i := 3) sc__law_menu.nd rfl (Or.inl rfl) (pe_call G__law_of (hr.mono (by decide)) rfl g__law_of k__law_of b__law_of .nil pass0 (pa_cons (pv 0) (pa_cons (pe_lc (own := [("_law_name", 3), ("_law_editions_here", 4)]) (g := (gTup _ 2 (gCons (gName 3) (gCons (gName 4) gNil)))) (tt := tYes) rfl sc__law_menu.nd (pi_tup (pe_dget (lt_units hr.units) (pe_dget (lt_units hr.units) (pv 1) pe_str (fun _ _ => rfl)) pe_str (fun _ _ => rfl))) (blkOk_by (N := N__law_menu) (sc := defScope s__law_menu) (by decide +kernel)) (fun _ _ _ _ _ => (pg_tup rfl (pgs_cons (pg_name (i := 3) sc__law_menu.nd rfl (Or.inl rfl)) (pgs_cons (pg_name (i := 4) sc__law_menu.nd rfl (Or.inl rfl)) pgs_nil)))) (fun _ _ _ _ _ => pts_nil) (fun _ _ _ _ _ => (pv 3))) pa_nil))))
      (pss_one (ps_ret (pe_op op_cat (pe_op op_cat (pe_call G__law_column_steps (hr.mono (by decide)) rfl g__law_column_steps k__law_column_steps b__law_column_steps .nil pass0 (pa_cons (pv 0) (pa_cons (pv 2) pa_nil))) (pe_lst (pa_cons (pe_tup (pa_cons pe_str (pa_cons (pv 3) pa_nil))) (pa_cons (pe_tup (pa_cons pe_str (pa_cons (pv 3) pa_nil))) pa_nil)))) (pe_call G__law_span_steps (hr.mono (by decide)) rfl g__law_span_steps k__law_span_steps b__law_span_steps .nil pass0 (pa_cons (pv 0) (pa_cons (pv 1) pa_nil)))))))), ok_body (Z := ⟨K, κ⟩) (O := []) (js_seq (js_asg (j_callV via_id (ja_cons (j_var nin) (ja_cons (j_cb c_list (ja_consW (JD.w (j_dget (JD.w (j_dget (JD.w (j_var nin)) j_str)) j_str)) ja_nil)) ja_nil)) (len_cons (len_cons (fun _ _ _ _ h => len_nil h)))) (jg_name nin nofun))
      (js_seq (js_asg (j_callV via_id (ja_cons (j_var nin) (ja_cons (j_lc (ji_tup xCo (j_dget (JD.w (j_dget (JD.w (j_var nin)) j_str)) j_str)) (jg_tup (jg_cons (jg_name nin (fun w e => by cases e; decide)) (jg_cons (jg_name nin (fun w e => by cases e; decide)) jg_nil))) jb_yes (j_var nin)) ja_nil)) (len_cons (len_cons (fun _ _ _ _ h => len_nil h)))) (jg_name nin nofun))
      (js_ret (JD.w (j_op upW r_catL (JD.w (j_op upW r_catL (JD.w (j_callV via_id (ja_cons (j_var nin) (ja_cons (j_var nin) ja_nil)) (len_cons (len_cons (fun _ _ _ _ h => len_nil h))))) (JD.w (j_lst (ja_cons (j_tup (ja_cons j_str (ja_cons (j_var nin) ja_nil))) (ja_cons (j_tup (ja_cons j_str (ja_cons (j_var nin) ja_nil))) ja_nil)))))) (JD.w (j_callV via_id (ja_cons (j_var nin) (ja_cons (j_var nin) ja_nil)) (len_cons (len_cons (fun _ _ _ _ h => len_nil h)))))))))) (fun _ m => absurd m List.not_mem_nil) h⟩)
theorem ok__law_odd {f : Addr} {fd : FuncData} (F : Fun K "_law_odd" "_law_odd" s__law_odd f fd) (T : TxD2 mg) (cL__law_take : Cal P w K mg base 1 "_law_take" P__law_take (spD ⟨K, κ⟩ 2 L__law_take)) (cL__law_of : Cal P w K mg base 2 "_law_of" P__law_of (spD ⟨K, κ⟩ 2 L__law_of)) : FnOk P w K mg base CX0 3 f fd P__law_odd (spD ⟨K, κ⟩ 2 L__law_odd) := by
  obtain ⟨f__law_take, fd__law_take, G__law_take, b__law_take, g__law_take, k__law_take⟩ := cL__law_take
  obtain ⟨f__law_of, fd__law_of, G__law_of, b__law_of, g__law_of, k__law_of⟩ := cL__law_of
  exact F.ok sc__law_odd (fun vs H Q E h => h.1) (fun cdv A outer s H vs Q E hr h => ⟨_, (pss_cons (ps_set (i := 2) sc__law_odd.nd rfl (Or.inl rfl) (pe_lst (pa_cons pe_non (pa_cons pe_bl (pa_cons pe_int (pa_cons (pe_un un_neg pe_int) (pa_cons pe_str (pa_cons pe_str (pa_cons (pe_tup pa_nil) (pa_cons (pe_lst pa_nil) (pa_cons pe_dnewK (pa_cons (pe_tup (pa_cons (pe_tup pa_nil) pa_nil)) (pa_cons (pe_op op_pow pe_int pe_int) (pa_cons (pe_callTy call_list_of (by rfl) T.n_list (by decide +kernel) (pa_cons (pv 1) pa_nil)) (pa_cons (pe_op op_catA (pv 1) (pe_tup (pa_cons pe_int pa_nil))) (pa_cons (pe_slice sl_tupA (pv 1) po_none (po_some (pe_un un_neg pe_int))) (pa_cons (pe_tup (pa_cons (pv 1) pa_nil)) pa_nil)))))))))))))))))
      (pss_cons (ps_if (pt_cmpR (op_neD hr.units) (pv 1) (pe_tup pa_nil) (nomark _)) (pss_cons (ps_set (i := 3) sc__law_odd.nd rfl (Or.inr rfl) (pe_call G__law_take (hr.mono (by decide)) rfl g__law_take k__law_take b__law_take .nil pass0 (pa_cons (pv 0) (pa_cons (pe_callB call_len_seq (by rfl) T.n_len (by decide +kernel) (pa_cons (pv 1) pa_nil)) pa_nil))))
      (pss_one (ps_set (i := 2) sc__law_odd.nd rfl (Or.inl rfl) (pe_op op_cat (pv 2) (pe_lc (own := [("_law_part", 4)]) (g := (gName 4)) (tt := tYes) rfl sc__law_odd.nd (pi_tup (pe_tup (pa_cons pe_non (pa_cons pe_bl (pa_cons pe_int (pa_cons pe_str (pa_cons pe_str (pa_cons (pe_tup pa_nil) (pa_cons (pe_lst pa_nil) (pa_cons (pv 1) pa_nil)))))))))) (blkOk_by (N := N__law_odd) (sc := defScope s__law_odd) (by decide +kernel)) (fun _ _ _ _ _ => (pg_name (i := 4) sc__law_odd.nd rfl (Or.inl rfl))) (fun _ _ _ _ _ => pts_nil) (fun _ _ _ _ _ => (pe_op op_catA (pe_op op_catA (pe_slice sl_tupA (pv 1) po_none (po_some (pv 3))) (pe_tup (pa_cons (pv 4) pa_nil))) (pe_slice sl_tupA (pv 1) (po_some (pe_op op_add (pv 3) pe_int)) po_none)))))))) pss_nil)
      (pss_one (ps_ret (pe_call G__law_of (hr.mono (by decide)) rfl g__law_of k__law_of b__law_of .nil pass0 (pa_cons (pv 0) (pa_cons (pv 2) pa_nil))))))), ok_body (Z := ⟨K, κ⟩) (O := []) (js_seq (js_asg (j_lst (ja_cons j_non (ja_cons j_bl (ja_cons j_int (ja_cons (j_un u_neg j_int) (ja_cons j_str (ja_cons j_str (ja_cons (j_tup ja_nil) (ja_cons (j_lst ja_nil) (ja_cons (JF.d jf_dic0) (ja_cons (j_tup (ja_cons (j_tup ja_nil) ja_nil)) (ja_cons (j_op upD r_pow j_int j_int) (ja_cons (j_cb c_list (ja_consW (JD.w (j_var nin)) ja_nil)) (ja_cons (j_op upD r_catT (j_var nin) (j_tup (ja_cons j_int ja_nil))) (ja_cons (j_slT (j_var nin) jo_none (jo_some (j_un u_neg j_int))) (ja_cons (j_tup (ja_cons (j_var nin) ja_nil)) ja_nil)))))))))))))))) (jg_name nin nofun))
      (js_seq (js_if (jb_test (j_op upW r_neD (JD.w (j_var nin)) (JD.w (j_tup ja_nil)))) (js_seq (js_asg (j_callV via_id (ja_cons (j_var nin) (ja_cons (j_cb c_len (ja_consW (JD.w (j_var nin)) ja_nil)) ja_nil)) (len_cons (len_cons (fun _ _ _ _ h => len_nil h)))) (jg_name nin nofun))
      (js_asg (j_op upW r_catL (JD.w (j_var nin)) (JD.w (j_lc (ji_tup xCo (j_tup (ja_cons j_non (ja_cons j_bl (ja_cons j_int (ja_cons j_str (ja_cons j_str (ja_cons (j_tup ja_nil) (ja_cons (j_lst ja_nil) (ja_cons (j_var nin) ja_nil)))))))))) (jg_name nin (fun w e => by cases e; decide)) jb_yes (j_op upD r_catT (j_op upD r_catT (j_slT (j_var nin) jo_none (jo_some (j_var nin))) (j_tup (ja_cons (j_var nin) ja_nil))) (j_slT (j_var nin) (jo_some (j_op upD r_add (j_var nin) j_int)) jo_none))))) (jg_name nin nofun))) js_next)
      (js_ret (JD.w (j_callV via_id (ja_cons (j_var nin) (ja_cons (j_var nin) ja_nil)) (len_cons (len_cons (fun _ _ _ _ h => len_nil h)))))))) (fun _ m => absurd m List.not_mem_nil) h⟩)
theorem ok__law_fits {f : Addr} {fd : FuncData} (F : Fun K "_law_fits" "_law_fits" s__law_fits f fd) (T : TxD2 mg) : FnOk P w K mg base CX0 1 f fd P__law_fits (spD ⟨K, κ⟩ 3 L__law_fits) := by
  exact F.ok sc__law_fits (fun vs H Q E h => h.1) (fun cdv A outer s H vs Q E hr h => ⟨_, (pss_cons (ps_if (pt_cmpR op_eq (pv 1) pe_str (nomark _)) (pss_one (ps_ret (pe_and (pe_callB call_isi (by rfl) T.n_isinstance (by decide +kernel) (pa_cons (pv 2) (pa_cons (pe_bltn (v := .ty "int") (by rfl) T.n_int (by decide +kernel) rfl) pa_nil))) (pe_one (pe_not (pe_callB call_isi (by rfl) T.n_isinstance (by decide +kernel) (pa_cons (pv 2) (pa_cons (pe_bltn (v := .ty "bool") (by rfl) T.n_bool (by decide +kernel) rfl) pa_nil)))))))) pss_nil)
      (pss_cons (ps_setLc (i := 3) (own := [("_law_name", 5), ("_law_editions_here", 6)]) (g := (gTup _ 2 (gCons (gName 5) (gCons (gName 6) gNil)))) (tt := tYes) rfl sc__law_fits.nd rfl rfl (sw_true rfl rfl rfl (by decide +kernel)) (pi_tup (pe_dget (lt_units hr.units) (pv 0) pe_str (fun _ _ => rfl))) (blkOk_by (N := N__law_fits) (sc := defScope s__law_fits) (by decide +kernel)) (fun _ _ _ _ _ => (pg_tup rfl (pgs_cons (pg_name (i := 5) sc__law_fits.nd rfl (Or.inl rfl)) (pgs_cons (pg_name (i := 6) sc__law_fits.nd rfl (Or.inl rfl)) pgs_nil)))) (fun _ _ _ _ _ => pts_nil) (fun _ _ _ _ _ => (pv 5)))
      (pss_cons (ps_set (i := 4) sc__law_fits.nd rfl (Or.inl rfl) (pe_disp (pps_cons pe_str (pe_callTy call_list_of (by rfl) T.n_list (by decide +kernel) (pa_cons (pe_dget (lt_units hr.units) (pv 0) pe_str (fun _ _ => rfl)) pa_nil)) (pps_cons pe_str (pv 3) (pps_cons pe_str (pe_lst (pa_cons pe_str (pa_cons pe_str pa_nil))) (pps_cons pe_str (pe_lst (pa_cons pe_str (pa_cons pe_str (pa_cons pe_str pa_nil)))) (pps_cons pe_str (pe_lst (pa_cons pe_str (pa_cons pe_str pa_nil))) pps_nil))))) rfl rfl (by simp) (by decide)))
      (pss_one (ps_ret (pe_and (pe_callB call_isi (by rfl) T.n_isinstance (by decide +kernel) (pa_cons (pv 2) (pa_cons (pe_bltn (v := .ty "str") (by rfl) T.n_str (by decide +kernel) rfl) pa_nil))) (pe_one (pe_cmpR (op_inS (neg := false) (Z := ⟨K, κ⟩) (hu70 hr) rfl) (pv 2) (pe_dget (lt_units hr.units) (pv 4) (pv 1) (fun _ _ => rfl)) rfl)))))))), ok_body (Z := ⟨K, κ⟩) (O := []) (js_seq (js_if (jb_test (j_op upD r_eq (j_var nin) j_str)) (js_ret (JD.w (j_andV (j_cb c_isi (ja_consW (JD.w (j_var nin)) (ja_cons j_ty ja_nil))) (j_notV (j_cb c_isi (ja_consW (JD.w (j_var nin)) (ja_cons j_ty ja_nil))))))) js_next)
      (js_seq (js_asg (j_lc (ji_tup xCo (j_dget (JD.w (j_var nin)) j_str)) (jg_tup (jg_cons (jg_name nin (fun w e => by cases e; decide)) (jg_cons (jg_name nin (fun w e => by cases e; decide)) jg_nil))) jb_yes (j_var nin)) (jg_name nin nofun))
      (js_seq (js_asg (j_disp (.cons j_str (j_cb c_list (ja_consW (JD.w (j_dget (JD.w (j_var nin)) j_str)) ja_nil)) (.cons j_str (j_var nin) (.cons j_str (j_lst (ja_cons j_str (ja_cons j_str ja_nil))) (.cons j_str (j_lst (ja_cons j_str (ja_cons j_str (ja_cons j_str ja_nil)))) (.cons j_str (j_lst (ja_cons j_str (ja_cons j_str ja_nil))) .nil)))))) (jg_name nin nofun))
      (js_ret (JD.w (j_andV (j_cb c_isi (ja_consW (JD.w (j_var nin)) (ja_cons j_ty ja_nil))) (j_op upD (r_inS (neg := false)) (j_var nin) (JD.w (j_dget (JD.w (j_var nin)) (j_var nin)))))))))) (fun _ m => absurd m List.not_mem_nil) h⟩)
theorem ok__law_is_step {f : Addr} {fd : FuncData} (F : Fun K "_law_is_step" "_law_is_step" s__law_is_step f fd) (T : TxD2 mg) (cL__law_fits : Cal P w K mg base 1 "_law_fits" P__law_fits (spD ⟨K, κ⟩ 3 L__law_fits)) : FnOk P w K mg base CX0 2 f fd P__law_is_step (spD ⟨K, κ⟩ 2 L__law_is_step) := by
  obtain ⟨f__law_fits, fd__law_fits, G__law_fits, b__law_fits, g__law_fits, k__law_fits⟩ := cL__law_fits
  exact F.ok sc__law_is_step (fun vs H Q E h => h.1) (fun cdv A outer s H vs Q E hr h => ⟨_, (pss_cons (ps_set (i := 2) sc__law_is_step.nd rfl (Or.inl rfl) (pe_disp (pps_cons pe_str (pe_lst (pa_cons pe_str pa_nil)) (pps_cons pe_str (pe_lst (pa_cons pe_str (pa_cons pe_str pa_nil))) (pps_cons pe_str (pe_lst (pa_cons pe_str pa_nil)) (pps_cons pe_str (pe_lst (pa_cons pe_str pa_nil)) (pps_cons pe_str (pe_lst (pa_cons pe_str (pa_cons pe_str pa_nil))) (pps_cons pe_str (pe_lst (pa_cons pe_str pa_nil)) (pps_cons pe_str (pe_lst (pa_cons pe_str (pa_cons pe_str pa_nil))) (pps_cons pe_str (pe_lst (pa_cons pe_str (pa_cons pe_str (pa_cons pe_str pa_nil)))) (pps_cons pe_str (pe_lst (pa_cons pe_str pa_nil)) (pps_cons pe_str (pe_lst (pa_cons pe_str pa_nil)) (pps_cons pe_str (pe_lst (pa_cons pe_str pa_nil)) (pps_cons pe_str (pe_lst (pa_cons pe_str pa_nil)) pps_nil)))))))))))) rfl rfl (by simp) (by decide)))
      (pss_cons (ps_if (PW.pt (pw_or (pt_not (pt_val (pe_callB call_isi (by rfl) T.n_isinstance (by decide +kernel) (pa_cons (pv 1) (pa_cons (pe_bltn (v := .ty "tuple") (by rfl) T.n_tuple (by decide +kernel) rfl) pa_nil))))) (pw_or (pt_cmpR op_eq (pe_callB call_len_seq (by rfl) T.n_len (by decide +kernel) (pa_cons (pv 1) pa_nil)) pe_int (nomark _)) (pw_or1 (pt_not (pt_val (pe_callB call_isi (by rfl) T.n_isinstance (by decide +kernel) (pa_cons (pe_ix ix_tup (pv 1) pe_int (fun _ _ => rfl)) (pa_cons (pe_bltn (v := .ty "str") (by rfl) T.n_str (by decide +kernel) rfl) pa_nil))))))))) (pss_one (ps_ret pe_bl)) pss_nil)
      (pss_cons (ps_if (PW.pt (pw_or (pt_cmp (pc_dnotin (lt_units hr.units) (pe_ix ix_tup (pv 1) pe_int (fun _ _ => rfl)) (pv 2))) (pw_or1 (pt_cmpR op_ne (pe_callB call_len_seq (by rfl) T.n_len (by decide +kernel) (pa_cons (pv 1) pa_nil)) (pe_op op_add (pe_callB call_len_seq (by rfl) T.n_len (by decide +kernel) (pa_cons (pe_dget (lt_units hr.units) (pv 2) (pe_ix ix_tup (pv 1) pe_int (fun _ _ => rfl)) (fun _ _ => rfl)) pa_nil)) pe_int) (nomark _))))) (pss_one (ps_ret pe_bl)) pss_nil)
      (pss_one (ps_ret (pe_callB (cr_all rfl) (by rfl) T.n_all (by decide +kernel) (pa_cons (pe_lc (own := [("_law_sort", 3), ("_law_part", 4)]) (g := (gTup _ 2 (gCons (gName 3) (gCons (gName 4) gNil)))) (tt := tYes) rfl sc__law_is_step.nd (pi_zipG rfl T.n_zip (pa_cons (pe_dget (lt_units hr.units) (pv 2) (pe_ix ix_tup (pv 1) pe_int (fun _ _ => rfl)) (fun _ _ => rfl)) (pa_cons (pe_slice sl_tupA (pv 1) (po_some pe_int) po_none) pa_nil))) (blkOk_by (N := N__law_is_step) (sc := defScope s__law_is_step) (by decide +kernel)) (fun _ _ _ _ _ => (pg_tup rfl (pgs_cons (pg_name (i := 3) sc__law_is_step.nd rfl (Or.inl rfl)) (pgs_cons (pg_name (i := 4) sc__law_is_step.nd rfl (Or.inl rfl)) pgs_nil)))) (fun _ _ _ _ _ => pts_nil) (fun _ _ _ _ _ => (pe_call G__law_fits (hr.mono (by decide)) rfl g__law_fits k__law_fits b__law_fits .nil pass0 (pa_cons (pv 0) (pa_cons (pv 3) (pa_cons (pv 4) pa_nil)))))) pa_nil))))))), ok_body (Z := ⟨K, κ⟩) (O := []) (js_seq (js_asg (j_disp (.cons j_str (j_lst (ja_cons j_str ja_nil)) (.cons j_str (j_lst (ja_cons j_str (ja_cons j_str ja_nil))) (.cons j_str (j_lst (ja_cons j_str ja_nil)) (.cons j_str (j_lst (ja_cons j_str ja_nil)) (.cons j_str (j_lst (ja_cons j_str (ja_cons j_str ja_nil))) (.cons j_str (j_lst (ja_cons j_str ja_nil)) (.cons j_str (j_lst (ja_cons j_str (ja_cons j_str ja_nil))) (.cons j_str (j_lst (ja_cons j_str (ja_cons j_str (ja_cons j_str ja_nil)))) (.cons j_str (j_lst (ja_cons j_str ja_nil)) (.cons j_str (j_lst (ja_cons j_str ja_nil)) (.cons j_str (j_lst (ja_cons j_str ja_nil)) (.cons j_str (j_lst (ja_cons j_str ja_nil)) .nil))))))))))))) (jg_name nin nofun))
      (js_seq (js_if (jb_or (jb_not (jb_B (j_cb c_isi (ja_consW (JD.w (j_var nin)) (ja_cons j_ty ja_nil))))) (jb_or (jb_test (j_op upD r_eq (j_cb c_len (ja_consW (JD.w (j_var nin)) ja_nil)) j_int)) (jb_not (jb_B (j_cb c_isi (ja_consW (JD.w (j_op upD r_ixT (j_var nin) j_int)) (ja_cons j_ty ja_nil))))))) (js_ret (JD.w j_bl)) js_next)
      (js_seq (js_if (jb_or (jb_B (j_dnotin (j_op upD r_ixT (j_var nin) j_int) (JD.w (j_var nin)))) (jb_test (j_op upD r_ne (j_cb c_len (ja_consW (JD.w (j_var nin)) ja_nil)) (j_op upD r_add (j_cb c_len (ja_consW (JD.w (j_dget (JD.w (j_var nin)) (j_op upD r_ixT (j_var nin) j_int))) ja_nil)) j_int)))) (js_ret (JD.w j_bl)) js_next)
      (js_ret (JD.w (j_cb c_all (ja_consW (JD.w (j_lc (ji_zipG xCo (ja_cons (j_dget (JD.w (j_var nin)) (j_op upD r_ixT (j_var nin) j_int)) (ja_cons (j_slT (j_var nin) (jo_some j_int) jo_none) ja_nil))) (jg_tup (jg_cons (jg_name nin (fun w e => by cases e; decide)) (jg_cons (jg_name nin (fun w e => by cases e; decide)) jg_nil))) jb_yes (j_callV via_id (ja_cons (j_var nin) (ja_cons (j_var nin) (ja_cons (j_var nin) ja_nil))) (len_cons (len_cons (len_cons (fun _ _ _ _ h => len_nil h))))))) ja_nil))))))) (fun _ m => absurd m List.not_mem_nil) h⟩)
theorem ok__law_values {f : Addr} {fd : FuncData} (F : Fun K "_law_values" "_law_values" s__law_values f fd) (T : TxD2 mg) (cL__law_first_state : Cal P w K mg base 1 "_law_first_state" P__law_first_state (spD ⟨K, κ⟩ 2 L__law_first_state)) (cL__law_span : Cal P w K mg base 3 "_law_span" P__law_span (spD ⟨K, κ⟩ 2 L__law_span)) (cL__law_menu : Cal P w K mg base 4 "_law_menu" P__law_menu (spD ⟨K, κ⟩ 2 L__law_menu)) (cL__law_of : Cal P w K mg base 2 "_law_of" P__law_of (spD ⟨K, κ⟩ 2 L__law_of)) (cL__law_take : Cal P w K mg base 1 "_law_take" P__law_take (spD ⟨K, κ⟩ 2 L__law_take)) (cL__law_odd : Cal P w K mg base 3 "_law_odd" P__law_odd (spD ⟨K, κ⟩ 2 L__law_odd)) : FnOk P w K mg base CX0 5 f fd P__law_values (spD ⟨K, κ⟩ 2 L__law_values) := by
  obtain ⟨f__law_first_state, fd__law_first_state, G__law_first_state, b__law_first_state, g__law_first_state, k__law_first_state⟩ := cL__law_first_state
  obtain ⟨f__law_span, fd__law_span, G__law_span, b__law_span, g__law_span, k__law_span⟩ := cL__law_span
  obtain ⟨f__law_menu, fd__law_menu, G__law_menu, b__law_menu, g__law_menu, k__law_menu⟩ := cL__law_menu
  obtain ⟨f__law_of, fd__law_of, G__law_of, b__law_of, g__law_of, k__law_of⟩ := cL__law_of
  obtain ⟨f__law_take, fd__law_take, G__law_take, b__law_take, g__law_take, k__law_take⟩ := cL__law_take
  obtain ⟨f__law_odd, fd__law_odd, G__law_odd, b__law_odd, g__law_odd, k__law_odd⟩ := cL__law_odd
  exact F.ok sc__law_values (fun vs H Q E h => h.1) (fun cdv A outer s H vs Q E hr h => ⟨_, (pss_cons (ps_set (i := 2) sc__law_values.nd rfl (Or.inl rfl) (pe_call G__law_first_state (hr.mono (by decide)) rfl g__law_first_state k__law_first_state b__law_first_state .nil pass0 (pa_cons (pv 1) (pa_cons (pe_call G__law_span (hr.mono (by decide)) rfl g__law_span k__law_span b__law_span .nil pass0 (pa_cons (pv 0) (pa_cons (pv 1) pa_nil))) pa_nil))))
      (pss_cons (ps_set (i := 3) sc__law_values.nd rfl (Or.inl rfl) (pe_op op_cat (pe_call G__law_menu (hr.mono (by decide)) rfl g__law_menu k__law_menu b__law_menu .nil pass0 (pa_cons (pv 0) (pa_cons (pv 2) pa_nil))) (pe_call G__law_menu (hr.mono (by decide)) rfl g__law_menu k__law_menu b__law_menu .nil pass0 (pa_cons (pv 0) (pa_cons (pv 2) pa_nil)))))
      (pss_cons (ps_set (i := 4) sc__law_values.nd rfl (Or.inr rfl) (pe_call G__law_of (hr.mono (by decide)) rfl g__law_of k__law_of b__law_of .nil pass0 (pa_cons (pv 0) (pa_cons (pv 3) pa_nil))))
      (pss_cons (ps_set (i := 5) sc__law_values.nd rfl (Or.inl rfl) (pe_lst (pa_cons pe_str (pa_cons pe_str (pa_cons pe_str (pa_cons pe_str (pa_cons pe_str (pa_cons pe_str (pa_cons pe_str (pa_cons pe_str (pa_cons pe_str (pa_cons pe_str (pa_cons pe_str pa_nil)))))))))))))
      (pss_cons (ps_set (i := 6) sc__law_values.nd rfl (Or.inr rfl) (pe_lst (pa_cons pe_str (pa_cons pe_str (pa_cons pe_str (pa_cons pe_str (pa_cons pe_str (pa_cons pe_str (pa_cons pe_int (pa_cons (pe_un un_neg pe_int) (pa_cons pe_bl (pa_cons pe_non (pa_cons pe_str (pa_cons (pe_tup pa_nil) (pa_cons (pe_op op_pow pe_int pe_int) pa_nil)))))))))))))))
      (pss_cons (ps_set (i := 7) sc__law_values.nd rfl (Or.inl rfl) (pe_callTy call_tuple_of (by rfl) T.n_tuple (by decide +kernel) (pa_cons (pe_lc (own := [("_law_k", 8)]) (g := (gName 8)) (tt := tYes) rfl sc__law_values.nd (pi_range1 rfl T.n_range (pa_cons (pe_call G__law_take (hr.mono (by decide)) rfl g__law_take k__law_take b__law_take .nil pass0 (pa_cons (pv 0) (pa_cons pe_int pa_nil))) pa_nil)) (blkOk_by (N := N__law_values) (sc := defScope s__law_values) (by decide +kernel)) (fun _ _ _ _ _ => (pg_name (i := 8) sc__law_values.nd rfl (Or.inl rfl))) (fun _ _ _ _ _ => pts_nil) (fun _ _ _ _ _ => (pe_call G__law_of (hr.mono (by decide)) rfl g__law_of k__law_of b__law_of .nil pass0 (pa_cons (pv 0) (pa_cons (pe_op op_cat (pv 6) (pe_lst (pa_cons (pe_ix ix_tup (pv 4) pe_int (fun _ _ => rfl)) pa_nil))) pa_nil))))) pa_nil)))
      (pss_cons (ps_set (i := 3) sc__law_values.nd rfl (Or.inl rfl) (pe_op op_cat (pv 3) (pe_lst (pa_cons (pe_op op_catA (pe_tup (pa_cons (pe_call G__law_of (hr.mono (by decide)) rfl g__law_of k__law_of b__law_of .nil pass0 (pa_cons (pv 0) (pa_cons (pe_op op_cat (pv 5) (pe_lst (pa_cons pe_str pa_nil))) pa_nil))) pa_nil)) (pv 7)) (pa_cons (pe_call G__law_odd (hr.mono (by decide)) rfl g__law_odd k__law_odd b__law_odd .nil pass0 (pa_cons (pv 0) (pa_cons (pv 4) pa_nil))) (pa_cons (pe_call G__law_odd (hr.mono (by decide)) rfl g__law_odd k__law_odd b__law_odd .nil pass0 (pa_cons (pv 0) (pa_cons (pv 4) pa_nil))) pa_nil))))))
      (pss_one (ps_ret (pe_op op_cat (pv 3) (pe_lst (pa_cons (pe_op op_catA (pv 4) (pe_tup (pa_cons (pe_ix ix_tup (pv 4) (pe_un un_neg pe_int) (fun _ _ => rfl)) pa_nil))) pa_nil)))))))))))), ok_body (Z := ⟨K, κ⟩) (O := []) (js_seq (js_asg (j_callV via_id (ja_cons (j_var nin) (ja_cons (j_callV via_id (ja_cons (j_var nin) (ja_cons (j_var nin) ja_nil)) (len_cons (len_cons (fun _ _ _ _ h => len_nil h)))) ja_nil)) (len_cons (len_cons (fun _ _ _ _ h => len_nil h)))) (jg_name nin nofun))
      (js_seq (js_asg (j_op upW r_catL (JD.w (j_callV via_id (ja_cons (j_var nin) (ja_cons (j_var nin) ja_nil)) (len_cons (len_cons (fun _ _ _ _ h => len_nil h))))) (JD.w (j_callV via_id (ja_cons (j_var nin) (ja_cons (j_var nin) ja_nil)) (len_cons (len_cons (fun _ _ _ _ h => len_nil h)))))) (jg_name nin nofun))
      (js_seq (js_asg (j_callV via_id (ja_cons (j_var nin) (ja_cons (j_var nin) ja_nil)) (len_cons (len_cons (fun _ _ _ _ h => len_nil h)))) (jg_name nin nofun))
      (js_seq (js_asg (j_lst (ja_cons j_str (ja_cons j_str (ja_cons j_str (ja_cons j_str (ja_cons j_str (ja_cons j_str (ja_cons j_str (ja_cons j_str (ja_cons j_str (ja_cons j_str (ja_cons j_str ja_nil)))))))))))) (jg_name nin nofun))
      (js_seq (js_asg (j_lst (ja_cons j_str (ja_cons j_str (ja_cons j_str (ja_cons j_str (ja_cons j_str (ja_cons j_str (ja_cons j_int (ja_cons (j_un u_neg j_int) (ja_cons j_bl (ja_cons j_non (ja_cons j_str (ja_cons (j_tup ja_nil) (ja_cons (j_op upD r_pow j_int j_int) ja_nil)))))))))))))) (jg_name nin nofun))
      (js_seq (js_asg (j_cb c_tuple (ja_consW (JD.w (j_lc (ji_rg1 (ja_cons (j_callV via_id (ja_cons (j_var nin) (ja_cons j_int ja_nil)) (len_cons (len_cons (fun _ _ _ _ h => len_nil h)))) ja_nil)) (jg_name nin (fun w e => by cases e; decide)) jb_yes (j_callV via_id (ja_cons (j_var nin) (ja_cons (j_op upW r_catL (JD.w (j_var nin)) (JD.w (j_lst (ja_cons (j_op upD r_ixT (j_var nin) j_int) ja_nil)))) ja_nil)) (len_cons (len_cons (fun _ _ _ _ h => len_nil h)))))) ja_nil)) (jg_name nin nofun))
      (js_seq (js_asg (j_op upW r_catL (JD.w (j_var nin)) (JD.w (j_lst (ja_cons (j_op upD r_catT (j_tup (ja_cons (j_callV via_id (ja_cons (j_var nin) (ja_cons (j_op upW r_catL (JD.w (j_var nin)) (JD.w (j_lst (ja_cons j_str ja_nil)))) ja_nil)) (len_cons (len_cons (fun _ _ _ _ h => len_nil h)))) ja_nil)) (j_var nin)) (ja_cons (j_callV via_id (ja_cons (j_var nin) (ja_cons (j_var nin) ja_nil)) (len_cons (len_cons (fun _ _ _ _ h => len_nil h)))) (ja_cons (j_callV via_id (ja_cons (j_var nin) (ja_cons (j_var nin) ja_nil)) (len_cons (len_cons (fun _ _ _ _ h => len_nil h)))) ja_nil)))))) (jg_name nin nofun))
      (js_ret (JD.w (j_op upW r_catL (JD.w (j_var nin)) (JD.w (j_lst (ja_cons (j_op upD r_catT (j_var nin) (j_tup (ja_cons (j_op upD r_ixT (j_var nin) (j_un u_neg j_int)) ja_nil))) ja_nil))))))))))))) (fun _ m => absurd m List.not_mem_nil) h⟩)
theorem ok__law_right {f : Addr} {fd : FuncData} (F : Fun K "_law_right" "_law_right" s__law_right f fd) (T : TxD2 mg) (cL__law_world : Cal P w K mg base 5 "_law_world" P__law_world (spD ⟨K, κ⟩ 1 L__law_world)) (cL__law_made : Cal P w K mg base 9 "_law_made" P__law_made (spD ⟨K, κ⟩ 1 L__law_made)) (cL__law_values : Cal P w K mg base 5 "_law_values" P__law_values (spD ⟨K, κ⟩ 2 L__law_values)) (cL_is_step : Cal P w K mg base 6 "is_step" P_is_step (spD ⟨K, κ⟩ 2 L_is_step)) (cL__law_is_step : Cal P w K mg base 2 "_law_is_step" P__law_is_step (spD ⟨K, κ⟩ 2 L__law_is_step)) : FnG P w K mg base CX0 10 f fd P__law_right (spD ⟨K, κ⟩ 1 L__law_right) := by
  obtain ⟨f__law_world, fd__law_world, G__law_world, b__law_world, g__law_world, k__law_world⟩ := cL__law_world
  obtain ⟨f__law_made, fd__law_made, G__law_made, b__law_made, g__law_made, k__law_made⟩ := cL__law_made
  obtain ⟨f__law_values, fd__law_values, G__law_values, b__law_values, g__law_values, k__law_values⟩ := cL__law_values
  obtain ⟨f_is_step, fd_is_step, G_is_step, b_is_step, g_is_step, k_is_step⟩ := cL_is_step
  obtain ⟨f__law_is_step, fd__law_is_step, G__law_is_step, b__law_is_step, g__law_is_step, k__law_is_step⟩ := cL__law_is_step
  exact Fun_okG F sc__law_right (fun vs H Q E h => h.1) (fun cdv A outer s H vs Q E calm hr h => ⟨_, (pss_cons (ps_set (i := 1) sc__law_right.nd rfl (Or.inl rfl) (pe_call G__law_world (hr.mono (by decide)) rfl g__law_world k__law_world b__law_world .nil pass0 (pa_cons (pv 0) pa_nil)))
      (pss_cons (ps_set (i := 2) sc__law_right.nd rfl (Or.inl rfl) (pe_call G__law_made (hr.mono (by decide)) rfl g__law_made k__law_made b__law_made .nil pass0 (pa_cons (pv 1) pa_nil)))
      (pss_cons (ps_for PassesOwn.never rfl (pi_list (pe_call G__law_values (hr.mono (by decide)) rfl g__law_values k__law_values b__law_values .nil pass0 (pa_cons (pv 0) (pa_cons (pv 1) pa_nil)))) (pg_name (i := 3) sc__law_right.nd rfl (Or.inl rfl)) (pss_cons (ps_set (i := 4) sc__law_right.nd rfl (Or.inl rfl) (pe_callB (call_repr2 (Z := ⟨K, κ⟩) calm (hu70 hr) rfl) (by rfl) T.n_repr (by decide +kernel) (pa_cons (pv 3) pa_nil)))
      (pss_cons (ps_set (i := 5) sc__law_right.nd rfl (Or.inl rfl) (pe_call G_is_step (hr.mono (by decide)) rfl g_is_step k_is_step b_is_step .nil pass0 (pa_cons (pv 2) (pa_cons (pv 3) pa_nil))))
      (pss_one (ps_if (PW.pt (pw_or (pt_not (pt_val (pe_callB call_isi (by rfl) T.n_isinstance (by decide +kernel) (pa_cons (pv 5) (pa_cons (pe_bltn (v := .ty "bool") (by rfl) T.n_bool (by decide +kernel) rfl) pa_nil))))) (pw_or (pt_cmpR op_ne (pv 5) (pe_call G__law_is_step (hr.mono (by decide)) rfl g__law_is_step k__law_is_step b__law_is_step .nil pass0 (pa_cons (pv 1) (pa_cons (pv 3) pa_nil))) (nomark _)) (pw_or1 (pt_cmpR op_ne (pe_callB (call_repr2 (Z := ⟨K, κ⟩) calm (hu70 hr) rfl) (by rfl) T.n_repr (by decide +kernel) (pa_cons (pv 3) pa_nil)) (pv 4) (nomark _)))))) (pss_one (ps_ret pe_bl)) pss_nil)))))
      (pss_one (ps_ret pe_bl))))), ok_body (Z := ⟨K, κ⟩) (O := []) (js_seq (js_asg (j_callV via_id (ja_cons (j_var nin) ja_nil) (len_cons (fun _ _ _ _ h => len_nil h))) (jg_name nin nofun))
      (js_seq (js_asg (j_callV via_F (ja_cons (j_var nin) ja_nil) (len_cons (fun _ _ _ _ h => len_nil h))) (jg_name nin nofun))
      (js_seq (js_for (ji_list xS (j_callV via_id (ja_cons (j_var nin) (ja_cons (j_var nin) ja_nil)) (len_cons (len_cons (fun _ _ _ _ h => len_nil h))))) (jg_name nin nofun) (js_seq (js_asg (j_cb c_repr2 (ja_cons (j_var nin) ja_nil)) (jg_name nin nofun))
      (js_seq (js_asg (j_callV via_F (ja_cons (j_var nin) (ja_cons (j_var nin) ja_nil)) (len_cons (len_cons (fun _ _ _ _ h => len_nil h)))) (jg_name nin nofun))
      (js_if (jb_or (jb_not (jb_B (j_cb c_isi (ja_consW (JD.w (j_var nin)) (ja_cons j_ty ja_nil))))) (jb_or (jb_test (j_op upD r_ne (j_var nin) (j_callV via_F (ja_cons (j_var nin) (ja_cons (j_var nin) ja_nil)) (len_cons (len_cons (fun _ _ _ _ h => len_nil h)))))) (jb_test (j_op upD r_ne (j_cb c_repr2 (ja_cons (j_var nin) ja_nil)) (j_var nin))))) (js_ret (JD.w j_bl)) js_next))))
      (js_ret (JD.w j_bl))))) (fun _ m => absurd m List.not_mem_nil) h⟩)
theorem ok_law {f : Addr} {fd : FuncData} (F : Fun K "law" "law" s_law f fd) (T : TxD2 mg) (cL__law_pot_of : Cal P w K mg base 1 "_law_pot_of" P__law_pot_of (spD ⟨K, κ⟩ 2 L__law_pot_of)) (cL__law_right : CalG P w K mg base 10 "_law_right" P__law_right (spD ⟨K, κ⟩ 1 L__law_right)) : FnG P w K mg base CX0 11 f fd P_law (spD ⟨K, κ⟩ 1 L_law) := by
  obtain ⟨f__law_pot_of, fd__law_pot_of, G__law_pot_of, b__law_pot_of, g__law_pot_of, k__law_pot_of⟩ := cL__law_pot_of
  obtain ⟨f__law_right, fd__law_right, G__law_right, b__law_right, g__law_right, k__law_right⟩ := cL__law_right
  exact Fun_okG F sc_law (fun vs H Q E h => h.1) (fun cdv A outer s H vs Q E calm hr h => ⟨_, (pss_cons (ps_for PassesOwn.never rfl (pi_range1 rfl T.n_range (pa_cons (pe_callB (call_max2 rfl) (by rfl) T.n_max (by decide +kernel) (pa_cons pe_int (pa_cons (pe_callB (call_min2 rfl) (by rfl) T.n_min (by decide +kernel) (pa_cons pe_int (pa_cons (pe_callB call_len_seq (by rfl) T.n_len (by decide +kernel) (pa_cons (pv 0) pa_nil)) pa_nil))) pa_nil))) pa_nil)) (pg_name (i := 1) sc_law.nd rfl (Or.inl rfl)) (pss_cons (ps_set (i := 2) sc_law.nd rfl (Or.inr rfl) (pe_call G__law_pot_of (hr.mono (by decide)) rfl g__law_pot_of k__law_pot_of b__law_pot_of .nil pass0 (pa_cons (pv 0) (pa_cons (pv 1) pa_nil))))
      (pss_one (ps_if (pt_not (pt_val (pe_callB (cr_all rfl) (by rfl) T.n_all (by decide +kernel) (pa_cons (pe_lc (own := [("_law_turn", 3)]) (g := (gName 3)) (tt := tYes) rfl sc_law.nd (pi_range1 rfl T.n_range (pa_cons pe_int pa_nil)) (blkOk_by (N := N_law) (sc := defScope s_law) (by decide +kernel)) (fun _ _ _ _ _ => (pg_name (i := 3) sc_law.nd rfl (Or.inl rfl))) (fun _ _ _ _ _ => pts_nil) (fun _ _ _ _ _ => (pe_callG calm G__law_right (hr.mono (by decide)) rfl g__law_right k__law_right b__law_right pass0 (pa_cons (pv 2) pa_nil)))) pa_nil)))) (pss_one (ps_ret pe_bl)) pss_nil))))
      (pss_one (ps_ret pe_bl))), ok_body (Z := ⟨K, κ⟩) (O := []) (js_seq (js_for (ji_rg1 (ja_cons (j_cb c_max (ja_cons j_int (ja_cons (j_cb c_min (ja_cons j_int (ja_cons (j_cb c_len (ja_consW (JD.w (j_var nin)) ja_nil)) ja_nil))) ja_nil))) ja_nil)) (jg_name nin nofun) (js_seq (js_asg (j_callV via_id (ja_cons (j_var nin) (ja_cons (j_var nin) ja_nil)) (len_cons (len_cons (fun _ _ _ _ h => len_nil h)))) (jg_name nin nofun))
      (js_if (jb_not (jb_B (j_cb c_all (ja_consW (JD.w (j_lc (ji_rg1 (ja_cons j_int ja_nil)) (jg_name nin (fun w e => by cases e; decide)) jb_yes (j_callV via_id (ja_cons (j_var nin) ja_nil) (len_cons (fun _ _ _ _ h => len_nil h))))) ja_nil)))) (js_ret (JD.w j_bl)) js_next)))
      (js_ret (JD.w j_bl))) (fun _ m => absurd m List.not_mem_nil) h⟩)
end
end Zd

namespace Zd
open PySem PySem.Spec PyProof.Rows L2 Zg
/-! ### what a program of trees does, by its parts -/
def wp {α : Type} (m : M α) (S : List Dat) (C : α → List Dat → Prop) : Prop := match m S with
  | .ok a S' => C a S'
  | _ => False
section
variable {α β : Type} {S : List Dat}
theorem wp_of {m : M α} {a : α} {S' : List Dat} {C : α → List Dat → Prop} (h : m S = .ok a S') (k : C a S') : wp m S C := by unfold wp; rw [h]; exact k
theorem wp_ok {m : M α} {C : α → List Dat → Prop} (h : wp m S C) : ∃ a S', m S = .ok a S' ∧ C a S' := by
  unfold wp at h
  cases e : m S with
  | ok a S' => rw [e] at h; exact ⟨a, S', rfl, h⟩
  | er c fs S' => rw [e] at h; exact h.elim
  | bad => rw [e] at h; exact h.elim
theorem wp_bind {m : M α} {f : α → M β} {C : β → List Dat → Prop} (h : wp m S fun a S' => wp (f a) S' C) : wp (m >>= f) S C := by
  obtain ⟨a, S', e, k⟩ := wp_ok h
  show wp (M.bnd m f) S C
  unfold wp M.bnd
  rw [e]
  exact k
theorem wp_mono {m : M α} {C D : α → List Dat → Prop} (h : wp m S C) (k : ∀ a S', C a S' → D a S') : wp m S D := by
  obtain ⟨a, S', e, c⟩ := wp_ok h
  exact wp_of e (k a S' c)
theorem wp_pure {a : α} {C : α → List Dat → Prop} (h : C a S) : wp (pure a) S C := h
theorem wp_need {b : Bool} {f : Unit → M β} {C : β → List Dat → Prop} (hb : b = true) (h : wp (f ()) S C) : wp (M.need b >>= f) S C := by subst hb; exact h
theorem wp_opt {o : Option α} {a : α} {f : α → M β} {C : β → List Dat → Prop} (ho : o = some a) (h : wp (f a) S C) : wp (M.opt o >>= f) S C := by subst ho; exact h
variable {ρ : Env}
theorem wp_run {N : Nat} {b : Env → M Flow} {ds : List Dat} {C : Dat → List Dat → Prop} (h : wp (b (startE N ds)) S fun f S' => wp (outF f) S' C) : wp (runD N b ds) S C := wp_bind h
theorem wp_seq {a b : Env → M Flow} {C : Flow → List Dat → Prop} (h : wp (a ρ) S fun f S' => match f with | .nx ρ' => wp (b ρ') S' C | g => C g S') : wp (sSeq a b ρ) S C := wp_bind (wp_mono h fun f S' k => by cases f <;> exact k)
theorem wp_if {c : Env → M Bool} {a b : Env → M Flow} {C : Flow → List Dat → Prop} (h : wp (c ρ) S fun x S' => (x = true → wp (a ρ) S' C) ∧ (x = false → wp (b ρ) S' C)) : wp (sIf c a b ρ) S C := wp_bind (wp_mono h fun x S' k => by
  cases x with
  | true => exact k.1 rfl
  | false => exact k.2 rfl)
theorem wp_xif {c : Env → M Bool} {a b : Env → M Dat} {C : Dat → List Dat → Prop} (h : wp (c ρ) S fun x S' => (x = true → wp (a ρ) S' C) ∧ (x = false → wp (b ρ) S' C)) : wp (xIf c a b ρ) S C := wp_bind (wp_mono h fun x S' k => by
  cases x with
  | true => exact k.1 rfl
  | false => exact k.2 rfl)
theorem wp_asg {a : Env → M Dat} {g : Env → Dat → Option Env} {C : Flow → List Dat → Prop} (h : wp (a ρ) S fun d S' => ∃ ρ', g ρ d = some ρ' ∧ C (.nx ρ') S') : wp (sAsg a g ρ) S C := wp_bind (wp_mono h fun d S' ⟨ρ', e, k⟩ => wp_opt e k)
theorem wp_ret {a : Env → M Dat} {C : Flow → List Dat → Prop} (h : wp (a ρ) S fun d S' => C (.rt d) S') : wp (sRet a ρ) S C := wp_bind h
theorem wp_op {f : Dat → Dat → M Dat} {a b : Env → M Dat} {C : Dat → List Dat → Prop} (h : wp (a ρ) S fun x S1 => wp (b ρ) S1 fun y S2 => wp (f x y) S2 C) : wp (xOp f a b ρ) S C := wp_bind (wp_mono h fun x S1 k => wp_bind k)
theorem wp_un {f : Dat → M Dat} {a : Env → M Dat} {C : Dat → List Dat → Prop} (h : wp (a ρ) S fun x S1 => wp (f x) S1 C) : wp (xUn f a ρ) S C := wp_bind h
theorem wp_test {a : Env → M Dat} {C : Bool → List Dat → Prop} (h : wp (a ρ) S fun d S' => ∃ b, d = .bl b ∧ C b S') : wp (bTest a ρ) S C := wp_bind (wp_mono h fun d S' ⟨b, e, k⟩ => by subst e; exact k)
theorem wp_not {a : Env → M Bool} {C : Bool → List Dat → Prop} (h : wp (a ρ) S fun b S' => C (!b) S') : wp (bNot a ρ) S C := wp_bind h
theorem wp_and {a b : Env → M Bool} {C : Bool → List Dat → Prop} (h : wp (a ρ) S fun x S' => (x = true → wp (b ρ) S' C) ∧ (x = false → C false S')) : wp (bAnd a b ρ) S C := wp_bind (wp_mono h fun x S' k => by
  cases x with
  | true => exact k.1 rfl
  | false => exact k.2 rfl)
theorem wp_or {a b : Env → M Bool} {C : Bool → List Dat → Prop} (h : wp (a ρ) S fun x S' => (x = true → C true S') ∧ (x = false → wp (b ρ) S' C)) : wp (bOr a b ρ) S C := wp_bind (wp_mono h fun x S' k => by
  cases x with
  | true => exact k.1 rfl
  | false => exact k.2 rfl)
theorem wp_andV {a b : Env → M Dat} {C : Dat → List Dat → Prop} (h : wp (a ρ) S fun d S' => ∃ x, d = .bl x ∧ (x = true → wp (b ρ) S' C) ∧ (x = false → C (.bl false) S')) : wp (xAnd a b ρ) S C := wp_bind (wp_test (wp_mono h fun d S' ⟨x, e, k1, k2⟩ => ⟨x, e, by
  cases x with
  | true => exact k1 rfl
  | false => exact k2 rfl⟩))
theorem wp_orV {a b : Env → M Dat} {C : Dat → List Dat → Prop} (h : wp (a ρ) S fun d S' => ∃ x, d = .bl x ∧ (x = true → C (.bl true) S') ∧ (x = false → wp (b ρ) S' C)) : wp (xOr a b ρ) S C := wp_bind (wp_test (wp_mono h fun d S' ⟨x, e, k1, k2⟩ => ⟨x, e, by
  cases x with
  | true => exact k1 rfl
  | false => exact k2 rfl⟩))
theorem wp_notV {a : Env → M Dat} {C : Dat → List Dat → Prop} (h : wp (a ρ) S fun d S' => ∃ x, d = .bl x ∧ C (.bl (!x)) S') : wp (xNot a ρ) S C := wp_bind (wp_test (wp_mono h fun d S' ⟨x, e, k⟩ => ⟨x, e, k⟩))
theorem wp_cons {a : Env → M Dat} {l : Env → M (List Dat)} {C : List Dat → List Dat → Prop} (h : wp (a ρ) S fun x S1 => wp (l ρ) S1 fun xs S2 => C (x :: xs) S2) : wp (xCons a l ρ) S C := wp_bind (wp_mono h fun x S1 k => wp_bind (wp_mono k fun xs S2 k => k))
theorem wp_cb {f : List Dat → M Dat} {l : Env → M (List Dat)} {C : Dat → List Dat → Prop} (h : wp (l ρ) S fun ds S1 => wp (f ds) S1 C) : wp (xCB f l ρ) S C := wp_bind h
theorem wp_calm {m : M α} {C : α → List Dat → Prop} (h : wp m S C) : wp (calm m) S C := by
  obtain ⟨a, S', e, k⟩ := wp_ok h
  unfold wp calm
  rw [e]
  exact k
theorem wp_call {f : List Dat → M Dat} {l : Env → M (List Dat)} {C : Dat → List Dat → Prop} (h : wp (l ρ) S fun ds S1 => wp (f ds) S1 C) : wp (xCall f l ρ) S C := wp_bind (wp_mono h fun ds S1 k => wp_calm k)
theorem wp_tup {l : Env → M (List Dat)} {C : Dat → List Dat → Prop} (h : wp (l ρ) S fun ds S1 => ds.length ≤ 1000 ∧ C (.tup ds) S1) : wp (xTup l ρ) S C := wp_bind (wp_mono h fun ds S1 ⟨k1, k2⟩ => wp_need (decide_eq_true k1) k2)
theorem wp_lst {l : Env → M (List Dat)} {C : Dat → List Dat → Prop} (h : wp (l ρ) S fun ds S1 => ds.length ≤ 1000 ∧ C (.lst ds) S1) : wp (xLst l ρ) S C := wp_bind (wp_mono h fun ds S1 ⟨k1, k2⟩ => wp_need (decide_eq_true k1) k2)
/-- a loop: what holds of what is left to walk -/
theorem wp_for {g : Env → Dat → Option Env} {b : Env → M Flow} {C : Flow → List Dat → Prop} (I : List Dat → Env → List Dat → Prop)
    (step : ∀ d ds ρ S, I (d :: ds) ρ S → ∃ ρ1, g ρ d = some ρ1 ∧ wp (b ρ1) S fun f S' => match f with | .nx ρ2 => I ds ρ2 S' | .ct ρ2 => I ds ρ2 S' | .bk ρ2 => C (.nx ρ2) S' | .rt d => C (.rt d) S')
    (stop : ∀ ρ S, I [] ρ S → C (.nx ρ) S) : ∀ (ds : List Dat) (ρ : Env) (S : List Dat), I ds ρ S → wp (forD g b ds ρ) S C
  | [], ρ, S, h => stop ρ S h
  | d :: ds, ρ, S, h => by
    obtain ⟨ρ1, e, k⟩ := step d ds ρ S h
    unfold forD
    refine wp_opt e (wp_bind (wp_mono k fun f S' k => ?_))
    cases f with
    | nx ρ2 => exact wp_for I step stop ds ρ2 S' k
    | ct ρ2 => exact wp_for I step stop ds ρ2 S' k
    | bk ρ2 => exact k
    | rt d => exact k
/-- a comprehension without a test -/
theorem wp_comp {g : Env → Dat → Option Env} {e : Env → M Dat} {ρ : Env} (I : List Dat → List Dat → List Dat → Prop)
    (step : ∀ d ds acc S, I (d :: ds) acc S → ∃ ρ1, g ρ d = some ρ1 ∧ wp (e ρ1) S fun x S' => I ds (acc ++ [x]) S') : ∀ (ds acc : List Dat) (S : List Dat) (C : List Dat → List Dat → Prop), I ds acc S → (∀ xs S', I [] (acc ++ xs) S' → C xs S') → wp (compD g bYes e ρ ds) S C
  | [], acc, S, C, h, k => k [] S (by rw [List.append_nil]; exact h)
  | d :: ds, acc, S, C, h, k => by
    obtain ⟨ρ1, e1, h1⟩ := step d ds acc S h
    unfold compD
    refine wp_opt e1 (wp_bind (wp_pure ?_))
    rw [if_pos rfl]
    refine wp_bind (wp_mono h1 fun x S' h2 => wp_bind (wp_comp I step ds (acc ++ [x]) S' _ h2 fun xs S2 h3 => ?_))
    exact k (x :: xs) S2 (by rw [List.append_assoc] at h3; exact h3)
theorem wp_lc {it : Env → M (List Dat)} {g : Env → Dat → Option Env} {e : Env → M Dat} {vs : List Nat} {C : Dat → List Dat → Prop} (h : wp (it ρ) S fun ds S1 => ds.length ≤ 100000 ∧ wp (compD g bYes e (wipeE ρ vs) ds) S1 fun xs S2 => C (.lst xs) S2) : wp (xLc it g bYes e vs ρ) S C :=
  wp_bind (wp_mono h fun ds S1 ⟨k1, k2⟩ => wp_need (decide_eq_true k1) (wp_bind k2))
end
/-- the pot at a place among others: k takes are left -/
def Pot (i k : Nat) (S : List Dat) : Prop := ∃ o m n : Int, S[i]? = some (.lst [.int o, .int m, .int n]) ∧ 0 ≤ o ∧ 0 ≤ m ∧ m < 2305843009213693921 ∧ 0 ≤ n ∧ n + k ≤ 100000
theorem Pot.le {i k l : Nat} {S : List Dat} (h : Pot i k S) (j : l ≤ k) : Pot i l S := by
  obtain ⟨o, m, n, a, b, c, d, e, f⟩ := h
  exact ⟨o, m, n, a, b, c, d, e, by omega⟩
/-- all places but the pot's stand as they stood, new ones may have come -/
def FrS (i : Nat) (S S' : List Dat) : Prop := S.length ≤ S'.length ∧ ∀ j, j < S.length → j ≠ i → S'[j]? = S[j]?
theorem FrS.refl {i : Nat} {S : List Dat} : FrS i S S := ⟨Nat.le_refl _, fun _ _ _ => rfl⟩
theorem FrS.trans {i : Nat} {S S1 S2 : List Dat} (h : FrS i S S1) (k : FrS i S1 S2) : FrS i S S2 := ⟨Nat.le_trans h.1 k.1, fun j l n => (k.2 j (by have := h.1; omega) n).trans (h.2 j l n)⟩
theorem FrS.set {i : Nat} {S : List Dat} {d : Dat} : FrS i S (S.set i d) := ⟨by rw [List.length_set]; exact Nat.le_refl _, fun j _ n => List.getElem?_set_ne fun e => n e.symm⟩
theorem FrS.get {i j : Nat} {S S' : List Dat} {d : Dat} (h : FrS i S S') (e : S[j]? = some d) (n : j ≠ i) : S'[j]? = some d := by
  rw [h.2 j (List.getElem?_eq_some_iff.mp e).1 n]
  exact e
theorem FrS.push {i : Nat} {S : List Dat} {d : Dat} : FrS i S (S ++ [d]) := ⟨by rw [List.length_append]; omega, fun j l _ => List.getElem?_append_left l⟩
theorem Pot.push {i k : Nat} {S : List Dat} {d : Dat} (h : Pot i k S) : Pot i k (S ++ [d]) := by
  obtain ⟨o, m, n, e, r⟩ := h
  exact ⟨o, m, n, by rw [List.getElem?_append_left (List.getElem?_eq_some_iff.mp e).1]; exact e, r⟩
theorem Pot.other {i j k : Nat} {S : List Dat} {d : Dat} (h : Pot i k S) (n : j ≠ i) : Pot i k (S.set j d) := by
  obtain ⟨o, m, n', e, r⟩ := h
  exact ⟨o, m, n', by rw [List.getElem?_set_ne n]; exact e, r⟩
theorem ixLo_of {S : List Dat} {i : Nat} {xs : List Dat} {k : Int} {x : Dat} (h : S[i]? = some (.lst xs)) (e : atI xs k = some x) : dIxLo (.loc i) (.int k) S = .ok x S := by
  show (match S[i]? with | some (.lst xs) => M.opt (atI xs k) S | _ => .bad) = _
  rw [h]
  show M.opt (atI xs k) S = _
  rw [e]
  rfl
theorem setLo_of {S : List Dat} {i q : Nat} {xs : List Dat} {k : Int} {x : Dat} {ρ : Env} (h : S[i]? = some (.lst xs)) (e : ixN xs.length k = some q) : setLo i k x ρ S = .ok (.nx ρ) (S.set i (.lst (xs.set q x))) := by
  unfold setLo
  rw [h]
  dsimp only
  rw [e]
theorem wp_setLo {S : List Dat} {ρ : Env} {j i q : Nat} {b a : Env → M Dat} {xs : List Dat} {k : Int} {C : Flow → List Dat → Prop} (ei : ρ[j]? = some (some (.loc i))) (h : wp (a ρ) S fun x S1 => wp (b ρ) S1 fun y S2 => y = .int k ∧ S2[i]? = some (.lst xs) ∧ ixN xs.length k = some q ∧ C (.nx ρ) (S2.set i (.lst (xs.set q x)))) : wp (sSetLo j b a ρ) S C := by
  have el : locAt ρ j = some i := by unfold locAt; rw [ei]
  refine wp_bind (wp_mono h fun x S1 h => wp_opt el (wp_bind (wp_mono h fun y S2 h => ?_)))
  obtain ⟨rfl, h1, h2, h3⟩ := h
  exact wp_opt rfl (wp_of (setLo_of h1 h2) h3)
theorem set_get {S : List Dat} {i : Nat} {d e : Dat} (h : S[i]? = some e) : (S.set i d)[i]? = some d := List.getElem?_set_self (List.getElem?_eq_some_iff.mp h).1
theorem w_mod {S : List Dat} {i j : Int} {C : Dat → List Dat → Prop} (hj : 0 < j) (h : C (.int (i % j)) S) : wp (dMod (.int i) (.int j)) S C := wp_need (decide_eq_true hj) h
theorem w_div {S : List Dat} {i j : Int} {C : Dat → List Dat → Prop} (hj : 0 < j) (h2 : j < 2 ^ 200) (h : C (.int (i / j)) S) : wp (dDiv (.int i) (.int j)) S C := wp_need (by simp only [Bool.and_eq_true, decide_eq_true_eq]; exact ⟨hj, h2⟩) h
theorem w_mul {S : List Dat} {i j : Int} {C : Dat → List Dat → Prop} (c : (-(2 ^ 64) < i ∧ i < 2 ^ 64) ∨ (-(2 ^ 64) < j ∧ j < 2 ^ 64)) (h : C (.int (i * j)) S) : wp (dMul (.int i) (.int j)) S C := wp_need (by unfold bMul; simp only [Bool.or_eq_true, Bool.and_eq_true, decide_eq_true_eq]; exact c) h
theorem w_pow {S : List Dat} {i j : Int} {C : Dat → List Dat → Prop} (c : 0 ≤ j ∧ j ≤ 1000000) (d : i.natAbs < 2 ^ 64) (h : C (.int (i ^ j.toNat)) S) : wp (dPow (.int i) (.int j)) S C := wp_need (by unfold bPow; simp only [Bool.and_eq_true, decide_eq_true_eq]; exact ⟨c, d⟩) h
theorem w_add {S : List Dat} {i j : Int} {C : Dat → List Dat → Prop} (h : C (.int (i + j)) S) : wp (dAdd (.int i) (.int j)) S C := h
theorem w_sub {S : List Dat} {i j : Int} {C : Dat → List Dat → Prop} (h : C (.int (i - j)) S) : wp (dSub (.int i) (.int j)) S C := h
theorem w_int {S : List Dat} {i : Int} {C : Dat → List Dat → Prop} (h : C (.int i) S) : wp (dInt [.int i]) S C := h
theorem wp_nil {S : List Dat} {ρ : Env} {C : List Dat → List Dat → Prop} (h : C [] S) : wp (xNil ρ) S C := h
theorem wp_c {S : List Dat} {ρ : Env} {d : Dat} {C : Dat → List Dat → Prop} (h : C d S) : wp (xC d ρ) S C := h
theorem wp_var {S : List Dat} {ρ : Env} {i : Nat} {d : Dat} {C : Dat → List Dat → Prop} (e : ρ[i]? = some (some d)) (h : C d S) : wp (xVar i ρ) S C := by unfold xVar; rw [e]; exact h
theorem w_take {i k : Nat} {S : List Dat} {u : Int} {C : Dat → List Dat → Prop} (h : Pot i (k + 1) S) (u0 : 0 < u) (u1 : u < 2 ^ 200) (q : ∀ r S', 0 ≤ r → r < u → Pot i k S' → FrS i S S' → C (.int r) S') : wp (L__law_take [.loc i, .int u]) S C := by
  obtain ⟨o, m, n, h, o0, m0, m1, n0, nk⟩ := h
  have i0 := ixLo_of h (k := 0) (x := Dat.int o) rfl
  have i2 := ixLo_of h (k := 2) (x := Dat.int n) rfl
  refine wp_run (wp_seq (wp_if (wp_test (wp_op (wp_op (wp_of (a := .loc i) (S' := S) rfl (wp_of (a := .int 0) (S' := S) rfl (wp_of i0 ?_))))))))
  refine wp_of (a := .int 0) (S' := S) rfl (wp_of (a := .bl (decide (0 < o))) (S' := S) rfl ⟨_, rfl, fun h0 => ?_, fun h0 => ?_⟩)
  · have h0 := of_decide_eq_true h0
    refine wp_seq (wp_asg (wp_op (wp_cb (wp_cons (wp_op (wp_of (a := .loc i) (S' := S) rfl (wp_of (a := .int 0) (S' := S) rfl (wp_of i0 (wp_nil (w_int ?_))))))))))
    refine wp_of (a := .int u) (S' := S) rfl (w_mod u0 ⟨_, rfl, ?_⟩)
    refine wp_seq (wp_setLo (i := i) (k := 0) (xs := [.int o, .int m, .int n]) (q := 0) rfl ?_)
    refine wp_op (wp_op (wp_of (a := .loc i) (S' := S) rfl (wp_of (a := .int 0) (S' := S) rfl (wp_of i0 ?_))))
    refine wp_of (a := .int u) (S' := S) rfl (w_div u0 u1 ?_)
    refine wp_of (a := .int 0) (S' := S) rfl ⟨rfl, h, rfl, ?_⟩
    refine wp_ret (wp_of rfl ?_)
    exact q _ _ (Int.emod_nonneg _ (by omega)) (Int.emod_lt_of_pos _ u0) ⟨_, _, _, set_get h, Int.ediv_nonneg o0 (by omega), m0, m1, n0, by omega⟩ .set
  · refine wp_of rfl ?_
    refine wp_seq (wp_setLo (i := i) (k := 2) (xs := [.int o, .int m, .int n]) (q := 2) rfl ?_)
    refine wp_op (wp_op (wp_of (a := .loc i) (S' := S) rfl (wp_of (a := .int 2) (S' := S) rfl (wp_of i2 ?_))))
    refine wp_of (a := .int 1) (S' := S) rfl (w_add ?_)
    refine wp_of (a := .int 2) (S' := S) rfl ⟨rfl, h, rfl, ?_⟩
    have g : (S.set i (Dat.lst [Dat.int o, Dat.int m, Dat.int (n + 1)]))[i]? = some (Dat.lst [Dat.int o, Dat.int m, Dat.int (n + 1)]) := set_get h
    have fr : FrS i S (S.set i (Dat.lst [Dat.int o, Dat.int m, Dat.int (n + 1)])) := .set
    show wp (sSeq _ _ _) (S.set i (Dat.lst [Dat.int o, Dat.int m, Dat.int (n + 1)])) _
    generalize S.set i (Dat.lst [Dat.int o, Dat.int m, Dat.int (n + 1)]) = S1 at g fr ⊢
    clear i0 i2
    have i0 := ixLo_of g (k := 0) (x := Dat.int o) rfl
    have i1 := ixLo_of g (k := 1) (x := Dat.int m) rfl
    have i2 := ixLo_of g (k := 2) (x := Dat.int (n + 1)) rfl
    have l5 : 0 ≤ (n + 1) % 5 ∧ (n + 1) % 5 < 5 := ⟨Int.emod_nonneg _ (by decide), Int.emod_lt_of_pos _ (by decide)⟩
    refine wp_seq (wp_asg (wp_op (wp_of (a := .lst [.int 2147483647, .int 2147483629, .int 2147483587, .int 2147483579, .int 2147483563]) (S' := S1) rfl (wp_op (wp_cb (wp_cons (wp_op (wp_of (a := .loc i) (S' := S1) rfl (wp_of (a := .int 2) (S' := S1) rfl (wp_of i2 (wp_nil (w_int ?_)))))))))))) 
    refine wp_of (a := .int 5) (S' := S1) rfl (w_mod (by decide) ?_)
    have pr : ∃ pr : Int, 2147483563 ≤ pr ∧ pr ≤ 2147483647 ∧ atI [Dat.int 2147483647, .int 2147483629, .int 2147483587, .int 2147483579, .int 2147483563] ((n + 1) % 5) = some (.int pr) := by
      generalize (n + 1) % 5 = i at l5 ⊢
      have : i = 0 ∨ i = 1 ∨ i = 2 ∨ i = 3 ∨ i = 4 := by omega
      rcases this with rfl | rfl | rfl | rfl | rfl <;> exact ⟨_, by decide, by decide, rfl⟩
    obtain ⟨pr, p0, p1, pe⟩ := pr
    refine wp_of (S' := S1) (show M.opt (atI [Dat.int 2147483647, .int 2147483629, .int 2147483587, .int 2147483579, .int 2147483563] ((n + 1) % 5)) S1 = .ok (.int pr) S1 by rw [pe]; rfl) ⟨_, rfl, ?_⟩
    have sq0 : 0 ≤ (n + 1) * (n + 1) := Int.mul_nonneg (by omega) (by omega)
    have sq1 : (n + 1) * (n + 1) ≤ 100000 * 100000 := Int.mul_le_mul (by omega) (by omega) (by omega) (by decide)
    have sq2 : 60089 * (n + 1) * (n + 1) = 60089 * ((n + 1) * (n + 1)) := Int.mul_assoc _ _ _
    repeat (first | with_reducible refine wp_par3 ?_ | with_reducible refine wp_par ?_ | with_reducible refine wp_seq ?_ | with_reducible refine wp_asg ?_ | with_reducible refine wp_ret ?_ | with_reducible refine wp_op ?_ | with_reducible refine wp_un ?_ | with_reducible refine wp_cb ?_ | with_reducible refine wp_cons ?_ | with_reducible refine wp_nil ?_ | with_reducible refine wp_c ?_ | with_reducible refine wp_andV ?_ | with_reducible refine wp_orV ?_ | with_reducible refine wp_notV ?_ | with_reducible refine wp_test ?_ | with_reducible refine wp_not ?_ | with_reducible refine wp_tup ?_ | with_reducible refine wp_lst ?_ | with_reducible refine wp_call ?_ | with_reducible refine w_add ?_ | with_reducible refine w_sub ?_ | with_reducible refine w_int ?_ | ((with_reducible show wp (xVar _ _) _ _); refine wp_var rfl ?_) | ((with_reducible show wp (dMul _ _) _ _); refine w_mul (by first | exact .inl (by omega) | exact .inr (by omega)) ?_) | ((with_reducible show wp (dMod _ _) _ _); refine w_mod (by omega) ?_) | ((with_reducible show wp (dDiv _ _) _ _); refine w_div (by omega) (by omega) ?_) | ((with_reducible show wp (dPow _ _) _ _); refine w_pow (by first | omega | (constructor <;> omega)) (by omega) ?_) | ((with_reducible show wp (dIxLo _ _) _ _); first | refine wp_of i0 ?_ | refine wp_of i1 ?_ | refine wp_of i2 ?_) | ((with_reducible show wp (dGt _ _) _ _); refine wp_of rfl ?_) | ((with_reducible show wp (dLen _) _ _); refine wp_of rfl ?_) | ((with_reducible show wp (dNeg _) _ _); refine wp_of rfl ?_) | ((with_reducible show wp (dEq _ _) _ _); refine wp_of rfl ?_) | refine ⟨Nat.le_of_ble_eq_true rfl, ?_⟩ | refine ⟨_, rfl, ?_⟩ | refine ⟨_, _, _, rfl, ?_⟩ | refine ⟨_, _, rfl, ?_⟩ | dsimp only)
    exact q _ _ (Int.emod_nonneg _ (by omega)) (Int.emod_lt_of_pos _ u0) ⟨_, _, _, g, o0, m0, m1, by omega, by omega⟩ fr
theorem at_nat {α : Type} {xs : List α} {r : Int} (h0 : 0 ≤ r) (h1 : r < xs.length) : ∃ x, atI xs r = some x ∧ x ∈ xs := by
  obtain ⟨n, rfl⟩ : ∃ n : Nat, r = n := ⟨r.toNat, (Int.toNat_of_nonneg h0).symm⟩
  have lt : n < xs.length := by omega
  refine ⟨xs[n], ?_, List.getElem_mem lt⟩
  unfold atI ixN
  have e : ¬ ((n : Int) < 0) := by omega
  simp [e, lt]
theorem w_of {k : Nat} {S : List Dat} {xs : List Dat} {C : Dat → List Dat → Prop} (h : Pot ℓ (k + 1) S) (l0 : 0 < xs.length) (l1 : xs.length ≤ 1000) (q : ∀ x S', x ∈ xs → Pot ℓ k S' → FrS ℓ S S' → C x S') : wp (L__law_of [.loc ℓ, .lst xs]) S C := by
  refine wp_run ?_
  repeat (first | with_reducible refine wp_par3 ?_ | with_reducible refine wp_par ?_ | with_reducible refine wp_seq ?_ | with_reducible refine wp_asg ?_ | with_reducible refine wp_ret ?_ | with_reducible refine wp_op ?_ | with_reducible refine wp_un ?_ | with_reducible refine wp_cb ?_ | with_reducible refine wp_cons ?_ | with_reducible refine wp_nil ?_ | with_reducible refine wp_c ?_ | with_reducible refine wp_andV ?_ | with_reducible refine wp_orV ?_ | with_reducible refine wp_notV ?_ | with_reducible refine wp_test ?_ | with_reducible refine wp_not ?_ | with_reducible refine wp_tup ?_ | with_reducible refine wp_lst ?_ | with_reducible refine wp_call ?_ | with_reducible refine w_add ?_ | with_reducible refine w_sub ?_ | with_reducible refine w_int ?_ | ((with_reducible show wp (xVar _ _) _ _); refine wp_var rfl ?_) | ((with_reducible show wp (dMul _ _) _ _); refine w_mul (by first | exact .inl (by omega) | exact .inr (by omega)) ?_) | ((with_reducible show wp (dMod _ _) _ _); refine w_mod (by omega) ?_) | ((with_reducible show wp (dDiv _ _) _ _); refine w_div (by omega) (by omega) ?_) | ((with_reducible show wp (dPow _ _) _ _); refine w_pow (by first | omega | (constructor <;> omega)) (by omega) ?_) | ((with_reducible show wp (dIxLo _ _) _ _); refine wp_of rfl ?_) | ((with_reducible show wp (dGt _ _) _ _); refine wp_of rfl ?_) | ((with_reducible show wp (dLen _) _ _); refine wp_of rfl ?_) | ((with_reducible show wp (dNeg _) _ _); refine wp_of rfl ?_) | ((with_reducible show wp (dEq _ _) _ _); refine wp_of rfl ?_) | refine ⟨Nat.le_of_ble_eq_true rfl, ?_⟩ | refine ⟨_, rfl, ?_⟩ | refine ⟨_, _, _, rfl, ?_⟩ | refine ⟨_, _, rfl, ?_⟩ | dsimp only)
  refine w_take h (by omega) (by omega) fun r S' r0 r1 hp fr => ?_
  obtain ⟨x, ex, mx⟩ := at_nat r0 r1
  refine wp_of (show M.opt (atI xs r) S' = .ok x S' by rw [ex]; rfl) ?_
  exact q x S' mx hp fr
theorem wp_par3 {S : List Dat} {ρ : Env} {i j k : Nat} {l : Env → M (List Dat)} {C : Flow → List Dat → Prop} (h : wp (l ρ) S fun ds S' => ∃ a b c, ds = [a, b, c] ∧ C (.nx (((ρ.set i (some a)).set j (some b)).set k (some c))) S') : wp (sPar3 i j k l ρ) S C := wp_bind (wp_mono h fun ds S' ⟨a, b, c, e, q⟩ => by subst e; exact q)
theorem wp_par {S : List Dat} {ρ : Env} {i j : Nat} {l : Env → M (List Dat)} {C : Flow → List Dat → Prop} (h : wp (l ρ) S fun ds S' => ∃ a b, ds = [a, b] ∧ C (.nx ((ρ.set i (some a)).set j (some b))) S') : wp (sPar i j l ρ) S C := wp_bind (wp_mono h fun ds S' ⟨a, b, e, q⟩ => by subst e; exact q)
theorem w_ofS {k : Nat} {S : List Dat} {C : Dat → List Dat → Prop} (ss : List Str) (h : Pot ℓ (k + 1) S) (l0 : 0 < ss.length) (l1 : ss.length ≤ 1000) (q : ∀ x S', x ∈ ss → Pot ℓ k S' → FrS ℓ S S' → C (.str x) S') : wp (L__law_of [.loc ℓ, .lst (ss.map .str)]) S C :=
  w_of h (by rw [List.length_map]; exact l0) (by rw [List.length_map]; exact l1) fun x S' mx hp fr => by
    obtain ⟨s, ms, rfl⟩ := List.mem_map.mp mx
    exact q s S' ms hp fr
theorem w_ofI {k : Nat} {S : List Dat} {C : Dat → List Dat → Prop} (ss : List Int) (h : Pot ℓ (k + 1) S) (l0 : 0 < ss.length) (l1 : ss.length ≤ 1000) (q : ∀ x S', x ∈ ss → Pot ℓ k S' → FrS ℓ S S' → C (.int x) S') : wp (L__law_of [.loc ℓ, .lst (ss.map .int)]) S C :=
  w_of h (by rw [List.length_map]; exact l0) (by rw [List.length_map]; exact l1) fun x S' mx hp fr => by
    obtain ⟨s, ms, rfl⟩ := List.mem_map.mp mx
    exact q s S' ms hp fr
theorem powz {S : List Dat} : dPowZ (.int (10 ^ 60)) (.int 5) S = .ok (.int ((10 ^ 60) ^ 5)) S := by
  have h : bPowZ (10 ^ 60) 5 = true := by decide +kernel
  show (M.need (bPowZ (10 ^ 60) 5) >>= fun _ => pure (Dat.int ((10 ^ 60) ^ (5 : Int).toNat)) : M Dat) S = _
  rw [h]
  rfl
theorem pow60 {S : List Dat} : dPow (.int 10) (.int 60) S = .ok (.int (10 ^ 60)) S := by
  have h : bPow 10 60 = true := by decide +kernel
  show (M.need (bPow 10 60) >>= fun _ => pure (Dat.int (10 ^ (60 : Int).toNat)) : M Dat) S = _
  rw [h]
  rfl
theorem pow18 {S : List Dat} : dPow (.int 10) (.int 18) S = .ok (.int (10 ^ 18)) S := by
  have h : bPow 10 18 = true := by decide +kernel
  show (M.need (bPow 10 18) >>= fun _ => pure (Dat.int (10 ^ (18 : Int).toNat)) : M Dat) S = _
  rw [h]
  rfl
abbrev potOwn : Env → M Dat := xOp dMul (xOp dMod (xCB dInt (xCons (xCB dAbs (xCons (xVar 2) xNil)) xNil)) (xOp dPowZ (xOp dPow (xC (.int 10)) (xC (.int 60))) (xC (.int 5)))) (xCB dInt (xCons (xOp dGe (xCB dAbs (xCons (xVar 2) xNil)) (xOp dPow (xC (.int 10)) (xC (.int 18)))) xNil))
theorem w_own {ns : List Int} {i c : Int} {S : List Dat} {C : Dat → List Dat → Prop} (q : ∀ o : Int, 0 ≤ o → C (.int o) S) : wp (potOwn [some (.scr ns), some (.int i), some (.int c), none]) S C := by
  refine wp_op (wp_op (wp_of (a := .int (if c < 0 then -c else c)) (S' := S) rfl ?_))
  refine wp_op (wp_op (wp_of (a := .int 10) (S' := S) rfl (wp_of (a := .int 60) (S' := S) rfl (wp_of pow60 ?_))))
  refine wp_of (a := .int 5) (S' := S) rfl (wp_of powz ?_)
  have p : (0 : Int) < (10 ^ 60) ^ 5 := by decide +kernel
  generalize ((10 : Int) ^ 60) ^ 5 = T at p ⊢
  refine w_mod p ?_
  refine wp_cb (wp_cons (wp_op (wp_of (a := .int (if c < 0 then -c else c)) (S' := S) rfl ?_)))
  refine wp_op (wp_of (a := .int 10) (S' := S) rfl (wp_of (a := .int 18) (S' := S) rfl (wp_of pow18 ?_)))
  refine wp_of (a := .bl (decide ((10 ^ 18 : Int) ≤ (if c < 0 then -c else c)))) (S' := S) rfl (wp_nil ?_)
  refine wp_of (a := .int (if decide ((10 ^ 18 : Int) ≤ (if c < 0 then -c else c)) then 1 else 0)) (S' := S) rfl ?_
  have a0 : 0 ≤ (if c < 0 then -c else c) % T := Int.emod_nonneg _ (by omega)
  generalize (if c < 0 then -c else c) % T = A at a0 ⊢
  generalize decide ((10 ^ 18 : Int) ≤ (if c < 0 then -c else c)) = b
  cases b with
  | true => exact w_mul (.inr (by decide)) (q _ (Int.mul_nonneg a0 (by decide)))
  | false => exact w_mul (.inr (by decide)) (q _ (Int.mul_nonneg a0 (by decide)))
theorem scr_at {ns : List Int} {i : Nat} {S : List Dat} (h : i < ns.length) : ∃ c, dIxSc (.scr ns) (.int (i : Int)) S = .ok (.int c) S := by
  refine ⟨ns[i], ?_⟩
  have e : atI ns (i : Int) = some ns[i] := by
    unfold atI ixN
    have : (i : Int) < (ns.length : Int) := by omega
    simp [this, h]
  show (M.opt (atI ns (i : Int)) >>= fun n => pure (Dat.int n) : M Dat) S = _
  rw [e]
  rfl
abbrev potMid : Env → M Dat := (xOp dMod (xOp dAdd (xOp dAdd (xOp dMul (xOp dMod (xCB dInt (xCons (xVar 2) xNil)) (xC (.int 2305843009213693951))) (xC (.int 74093))) (xOp dMul (xOp dMul (xC (.int 7013)) (xVar 1)) (xVar 1))) (xC (.int 41))) (xC (.int 2305843009213693921)))
theorem w_mid {a0 : Option Dat} {o i c : Int} {S : List Dat} {C : Dat → List Dat → Prop} (ih : -(2 ^ 64) < i ∧ i < 2 ^ 64) (q : ∀ m : Int, 0 ≤ m → m < 2305843009213693921 → C (.int m) S) : wp (potMid [a0, some (.int i), some (.int c), some (.int o)]) S C := by
  refine wp_op (wp_op (wp_op (wp_op (wp_op (wp_of (a := .int c) (S' := S) rfl (wp_of (a := .int 2305843009213693951) (S' := S) rfl ?_))))))
  refine w_mod (by decide) ?_
  have b0 : 0 ≤ c % 2305843009213693951 := Int.emod_nonneg _ (by decide)
  have b1 : c % 2305843009213693951 < 2305843009213693951 := Int.emod_lt_of_pos _ (by decide)
  generalize c % 2305843009213693951 = r at b0 b1 ⊢
  refine wp_of (a := .int 74093) (S' := S) rfl (w_mul (.inr (by decide)) ?_)
  generalize r * 74093 = w
  refine wp_op ?_
  refine wp_op ?_
  refine wp_of (a := .int 7013) (S' := S) rfl ?_
  refine wp_of (a := .int i) (S' := S) rfl ?_
  refine w_mul (i := 7013) (j := i) (.inl ⟨by decide, by decide⟩) ?_
  refine wp_of (a := .int i) (S' := S) rfl (w_mul (.inr ih) (w_add ?_))
  refine wp_of (a := .int 41) (S' := S) rfl (w_add ?_)
  refine wp_of (a := .int 2305843009213693921) (S' := S) rfl (w_mod (by decide) ?_)
  generalize hm : (w + 7013 * i * i + 41) % 2305843009213693921 = m
  have m0 : 0 ≤ m := hm ▸ Int.emod_nonneg _ (by decide)
  have m1 : m < 2305843009213693921 := hm ▸ Int.emod_lt_of_pos _ (by decide)
  exact q m m0 m1
theorem w_pot {ns : List Int} {i : Nat} {S : List Dat} {C : Dat → List Dat → Prop} (h : i < 3) (q : ∀ S', Pot S.length 100000 S' → S'.length = S.length + 1 → C (.loc S.length) S') : wp (L__law_pot_of [.scr ns, .int (i : Int)]) S C := by
  have ih : -(2 ^ 64) < (i : Int) ∧ (i : Int) < 2 ^ 64 := by omega
  refine wp_run ?_
  have rest : ∀ c : Int, wp ((sSeq (sAsg potOwn (gN 3)) (sRetLo (xLst (xCons (xVar 3) (xCons potMid (xCons (xC (.int 0)) xNil))))) ) [some (.scr ns), some (.int (i : Int)), some (.int c), none]) S fun f S' => wp (outF f) S' C := fun c => by
    refine wp_seq (wp_asg (w_own fun o o0 => ⟨_, rfl, ?_⟩))
    refine wp_bind (wp_lst (wp_cons (wp_of (a := .int o) (S' := S) rfl (wp_cons ?_))))
    refine w_mid ih fun m m0 m1 => ?_
    refine wp_cons (wp_of (a := .int 0) (S' := S) rfl (wp_nil ⟨Nat.le_of_ble_eq_true rfl, ?_⟩))
    show wp (outF (.rt (.loc S.length))) (S ++ [.lst [.int o, .int m, .int 0]]) C
    refine wp_of rfl (q _ ⟨o, m, 0, ?_, o0, m0, m1, by decide, by decide⟩ (by rw [List.length_append]; rfl))
    rw [List.getElem?_append_right (Nat.le_refl _), Nat.sub_self]
    rfl
  by_cases c : i < ns.length
  · obtain ⟨v, hv⟩ := @scr_at ns i S c
    refine wp_seq (wp_asg (wp_xif (wp_of (a := true) (S' := S) ?_ ⟨fun _ => ?_, nofun⟩)))
    · show Out.ok (decide ((i : Int) < (ns.length : Int))) S = _
      rw [decide_eq_true (by omega)]
    · refine wp_op (wp_of (a := .scr ns) (S' := S) rfl (wp_of (a := .int (i : Int)) (S' := S) rfl (wp_of hv ⟨_, rfl, ?_⟩)))
      exact rest v
  · refine wp_seq (wp_asg (wp_xif (wp_of (a := false) (S' := S) ?_ ⟨nofun, fun _ => ?_⟩)))
    · show Out.ok (decide ((i : Int) < (ns.length : Int))) S = _
      rw [decide_eq_false (by omega)]
    · refine wp_op (wp_op (wp_of (a := .int 53) (S' := S) rfl (wp_of (a := .int (i : Int)) (S' := S) rfl (w_mul (.inl (by decide)) ?_))))
      refine wp_of (a := .int 29) (S' := S) rfl (w_add ⟨_, rfl, ?_⟩)
      generalize (53 * (i : Int) + 29) = v
      exact rest v
theorem intsD_len {lo : Int} {n : Nat} : (intsD lo n).length = n := by unfold intsD; rw [List.length_map, List.length_range]
theorem wp_lcT {S : List Dat} {ρ : Env} {it : Env → M (List Dat)} {g : Env → Dat → Option Env} {c : Env → M Bool} {e : Env → M Dat} {vs : List Nat} {C : Dat → List Dat → Prop} (h : wp (it ρ) S fun ds S1 => ds.length ≤ 100000 ∧ wp (compD g c e (wipeE ρ vs) ds) S1 fun xs S2 => C (.lst xs) S2) : wp (xLc it g c e vs ρ) S C :=
  wp_bind (wp_mono h fun ds S1 ⟨k1, k2⟩ => wp_need (decide_eq_true k1) (wp_bind k2))

theorem wp_calm2 {α : Type} {m : M α} {S : List Dat} {C : α → List Dat → Prop} (h : wp m S C) : wp (calm m) S C := wp_calm h
/-- a call in an empty store, of known answer -/
theorem callF_ok {F : List Dat → M Dat} {ds : List Dat} {d e : Dat} {S' : List Dat} (nl : noLocs ds = true) (h : F ds [] = .ok d S') (z : frz S' 40 d = some e) (S : List Dat) : callF F ds S = .ok e S := by
  unfold callF
  rw [nl]
  dsimp only
  rw [h]
  dsimp only
  rw [z]
theorem loop_it (ns : List Int) (r : Env) : ∃ t : Nat, (iRg1 (xCons (xCB dMax (xCons (xC (.int 1)) (xCons (xCB dMin (xCons (xC (.int 2)) (xCons (xCB dLen (xCons (xVar 0) xNil)) xNil))) xNil))) xNil) (some (.scr ns) :: r)) [] = .ok (intsD 0 t) [] ∧ t ≤ 3 := by
  generalize hj : (if (if ((ns.length : Nat) : Int) < 2 then ((ns.length : Nat) : Int) else 2) > 1 then (if ((ns.length : Nat) : Int) < 2 then ((ns.length : Nat) : Int) else 2) else 1) = j
  have j3 : 0 ≤ j ∧ j ≤ 3 := by subst hj; split <;> (try split) <;> omega
  refine ⟨j.toNat, ?_, by omega⟩
  have e : (iRg1 (xCons (xCB dMax (xCons (xC (.int 1)) (xCons (xCB dMin (xCons (xC (.int 2)) (xCons (xCB dLen (xCons (xVar 0) xNil)) xNil))) xNil))) xNil) (some (.scr ns) :: r)) [] = (M.need (decide (-(2 ^ 62) ≤ j ∧ j < 2 ^ 62)) >>= fun _ => pure (intsD 0 j.toNat) : M (List Dat)) [] := by rw [← hj]; rfl
  rw [e, decide_eq_true (by omega)]
  rfl
/-- the law's loop over its pots -/
theorem law_loop {ns : List Int} {b : Env → M Flow} {u0 : Option Dat} {r : Env} {C : Flow → List Dat → Prop}
    (step : ∀ (r' : Env) (S : List Dat) (i : Nat), i < 3 → r'.length = r.length → wp (b (some (.scr ns) :: some (.int (i : Int)) :: r')) S fun f S' => match f with
      | .nx ρ2 => ∃ u r2, ρ2 = some (.scr ns) :: u :: r2 ∧ r2.length = r.length
      | _ => False)
    (stop : ∀ ρ S, C (.nx ρ) S) : wp (sFor (iRg1 (xCons (xCB dMax (xCons (xC (.int 1)) (xCons (xCB dMin (xCons (xC (.int 2)) (xCons (xCB dLen (xCons (xVar 0) xNil)) xNil))) xNil))) xNil)) (gN 1) b (some (.scr ns) :: u0 :: r)) [] C := by
  obtain ⟨t, et, t3⟩ := loop_it ns (u0 :: r)
  refine wp_bind (wp_of et ?_)
  refine wp_for (I := fun left ρ S => (∀ d ∈ left, ∃ i : Nat, i < 3 ∧ d = .int (i : Int)) ∧ ∃ u r', ρ = some (.scr ns) :: u :: r' ∧ r'.length = r.length) (fun d left ρ S ⟨el, u, r', eρ, lr⟩ => ?_) (fun ρ S _ => stop ρ S) _ _ _ ⟨fun d m => ?_, _, _, rfl, rfl⟩
  · subst eρ
    obtain ⟨i, i3, rfl⟩ := el d List.mem_cons_self
    refine ⟨_, rfl, wp_mono (step r' S i i3 lr) fun f S' k => ?_⟩
    cases f with
    | nx ρ2 =>
      obtain ⟨u2, r2, k2, k3⟩ := k
      exact ⟨fun d m => el d (List.mem_cons_of_mem _ m), u2, r2, k2, k3⟩
    | rt d => exact k.elim
    | bk ρ => exact k.elim
    | ct ρ => exact k.elim
  · unfold intsD at m
    obtain ⟨i, mi, rfl⟩ := List.mem_map.mp m
    exact ⟨i, by have := List.mem_range.mp mi; omega, by rw [Int.zero_add]⟩
end Zd

namespace Zd
open PySem PySem.Spec PyProof.Rows L2 Zg
/-! ### the drawn world: names -/
def NM : List Str := [("a" : Str), ("id" : Str), ("key" : Str), ("no" : Str), ("ref" : Str), ("up" : Str), ("zz" : Str), ("column" : Str), ("abcdefgh" : Str)]
def nset0 : List (List Str) := [[("a" : Str)], [("id" : Str)], [("key" : Str)], [("no" : Str)], [("ref" : Str)], [("up" : Str)], [("zz" : Str)], [("column" : Str)], [("abcdefgh" : Str)]]
def nset1 : List (List Str) := [[("a" : Str), ("id" : Str)], [("id" : Str), ("key" : Str)], [("key" : Str), ("no" : Str)], [("no" : Str), ("ref" : Str)], [("ref" : Str), ("up" : Str)], [("up" : Str), ("zz" : Str)], [("column" : Str), ("zz" : Str)], [("abcdefgh" : Str), ("column" : Str)], [("a" : Str), ("abcdefgh" : Str)]]
def nset2 : List (List Str) := [[("a" : Str), ("id" : Str), ("key" : Str)], [("id" : Str), ("key" : Str), ("no" : Str)], [("key" : Str), ("no" : Str), ("ref" : Str)], [("no" : Str), ("ref" : Str), ("up" : Str)], [("ref" : Str), ("up" : Str), ("zz" : Str)], [("column" : Str), ("up" : Str), ("zz" : Str)], [("abcdefgh" : Str), ("column" : Str), ("zz" : Str)], [("a" : Str), ("abcdefgh" : Str), ("column" : Str)], [("a" : Str), ("abcdefgh" : Str), ("id" : Str)]]
def nsets : List (List Str) := nset0 ++ nset1 ++ nset2

def subs : List Str → List (List Str)
  | [] => [[]]
  | c :: cs => subs cs ++ (subs cs).map (c :: ·)
theorem map_eq {α β : Type} {f g : α → β} : ∀ {l : List α}, l.map f = l.map g → ∀ x, x ∈ l → f x = g x
  | [], _, x, h => nomatch h
  | a :: l, e, x, h => by
    have e1 : f a :: l.map f = g a :: l.map g := e
    injection e1 with e2 e3
    rcases List.mem_cons.mp h with h | h
    · rw [h]; exact e2
    · exact map_eq e3 x h
/-- all pairs -/
def prs {α β : Type} (l : List α) (k : List β) : List (α × β) := l.flatMap fun a => k.map fun b => (a, b)
theorem mem_prs {α β : Type} {l : List α} {k : List β} {a : α} {b : β} (ha : a ∈ l) (hb : b ∈ k) : (a, b) ∈ prs l k := List.mem_flatMap.mpr ⟨a, ha, List.mem_map.mpr ⟨b, hb, rfl⟩⟩
def lstS (ss : List Str) : Dat := .lst (ss.map .str)
def tupS (ss : List Str) : Dat := .tup (ss.map .str)
abbrev nameT : Env → M Dat := xCB dSorted (xCons (xLc (iLst (jSl dCutL (xOp dCatL (jSl dCutL (xVar 2) (oSome (xVar 3)) oNone) (jSl dCutL (xVar 2) oNone (oSome (xVar 3)))) oNone (oSome (xVar 1)))) (gN 4) bYes (xCB dStrS (xCons (xVar 4) xNil)) [4]) xNil)
def nameAt (q : Int × Int) : List Str := nsets.getD ((q.2 - 1) * 9 + q.1).toNat []
def nineI : List Int := [0, 1, 2, 3, 4, 5, 6, 7, 8]
theorem nameT_at (S : List Dat) (p : Dat) : ((prs nineI [1, 2, 3]).map fun q : Int × Int => nameT [some p, some (.int q.2), some (lstS NM), some (.int q.1), none] S) = (prs nineI [1, 2, 3]).map fun q => .ok (lstS (nameAt q)) S := by kernel_rfl
theorem nameAt_in : ∀ q, q ∈ prs nineI [1, 2, 3] → nameAt q ∈ nsets := by decide +kernel
theorem nine_in {r : Int} (h0 : 0 ≤ r) (h1 : r < 9) : r ∈ nineI := by
  obtain ⟨n, rfl⟩ := Int.eq_ofNat_of_zero_le h0
  have : n < 9 := by omega
  match n, this with
  | 0, _ => decide
  | 1, _ => decide
  | 2, _ => decide
  | 3, _ => decide
  | 4, _ => decide
  | 5, _ => decide
  | 6, _ => decide
  | 7, _ => decide
  | 8, _ => decide
section
variable {ℓ : Nat}
theorem w_names {k : Nat} {m : Int} {S : List Dat} {C : Dat → List Dat → Prop} (h : Pot ℓ (k + 1) S) (hm : m ∈ ([1, 2, 3] : List Int)) (q : ∀ ss S', ss ∈ nsets → Pot ℓ k S' → FrS ℓ S S' → C (lstS ss) S') : wp (L__law_some_names [.loc ℓ, .int m]) S C := by
  refine wp_run (wp_seq (wp_asg (wp_of (a := lstS NM) (S' := S) rfl ?_)))
  refine ⟨_, rfl, ?_⟩
  dsimp only
  refine wp_seq (wp_asg (wp_call (wp_cons (wp_of (a := .loc ℓ) (S' := S) rfl (wp_cons (wp_of (a := .int 9) (S' := S) rfl (wp_nil ?_)))))))
  refine w_take h (by decide) (by decide) fun r S' r0 r1 hp hf => ?_
  refine ⟨_, rfl, ?_⟩
  dsimp only
  have mm := mem_prs (nine_in r0 r1) hm
  have e : nameT [some (.loc ℓ), some (.int m), some (lstS NM), some (.int r), none] S' = .ok (lstS (nameAt (r, m))) S' := map_eq (nameT_at S' (.loc ℓ)) (r, m) mm
  have g := q _ S' (nameAt_in _ mm) hp hf
  generalize nameAt (r, m) = ss at e g
  exact wp_ret (wp_of e g)
end
/-! ### the drawn world: what the program says of its parts -/
theorem is_name_at (S : List Dat) : (NM.map fun n => L_is_name [.str n] S) = NM.map fun _ => .ok (.bl true) S := by kernel_rfl
theorem nsets_NM : ∀ ss, ss ∈ nsets → ∀ s, s ∈ ss → s ∈ NM := by decide +kernel
theorem cols_at (S : List Dat) : (nsets.map fun ss => L__are_columns [tupS ss] S) = nsets.map fun _ => .ok (.bl true) S := by kernel_rfl
def sublists : List (List Str × List Str) := nsets.flatMap fun cs => (subs cs).map fun ss => (cs, ss)
theorem mem_sub {cs ss : List Str} (h : cs ∈ nsets) (k : ss ∈ subs cs) : (cs, ss) ∈ sublists := List.mem_flatMap.mpr ⟨cs, h, List.mem_map.mpr ⟨ss, k, rfl⟩⟩
theorem asc_at (S : List Dat) : (sublists.map fun q => L_is_ascending [lstS q.2] S) = sublists.map fun _ => .ok (.bl true) S := by kernel_rfl
def deedsL : List (List Str) := [["show"], ["match"], ["match", "show"], ["match", "order"], ["order"], [], ["match", "order", "show"], ["order", "show"]]
def sidesL : List Str := ["narrow", "either", "wide"]
theorem read_at (S : List Dat) (c : Str) : ((prs sidesL deedsL).map fun q : Str × List Str => L__is_read [.tup [.str c, .str q.1, tupS q.2]] S) = (prs sidesL deedsL).map fun _ => .ok (.bl true) S := by kernel_rfl
def howsL : List Str := ["narrow", "wide", "both", "narrow first", "wide first"]
def rulesL : List Str := ["refuse", "cut", "empty"]
def pacesL : List Int := [0, 1, 2, 3, 5, 99]
theorem write_at (S : List Dat) (c : Str) (l : Dat) : ((prs howsL (prs rulesL pacesL)).map fun q : Str × Str × Int => L__is_write [l, .tup [.str c, .str q.1, .str q.2.1, .str "", .int q.2.2]] S) = (prs howsL (prs rulesL pacesL)).map fun _ => .ok (.bl true) S := by kernel_rfl
end Zd

namespace Zd
open PySem PySem.Spec PyProof.Rows L2 Zg
/-! ### equations for pieces of a body -/
section
variable {S S' S1 : List Dat} {ρ ρ' : Env}
theorem run_at {N : Nat} {b : Env → M Flow} {ds : List Dat} {d : Dat} (h : b (startE N ds) S = .ok (.rt d) S') : runD N b ds S = .ok d S' := by
  unfold runD
  rw [m_bind, h] <;> rfl
theorem seq_at {a b : Env → M Flow} (h : a ρ S = .ok (.nx ρ') S') : sSeq a b ρ S = b ρ' S' := by
  unfold sSeq
  rw [m_bind, h] <;> rfl
theorem if_f {c : Env → M Bool} {a b : Env → M Flow} (h : c ρ S = .ok false S') : sIf c a b ρ S = b ρ S' := by
  unfold sIf
  rw [m_bind, h] <;> rfl
theorem if_t {c : Env → M Bool} {a b : Env → M Flow} (h : c ρ S = .ok true S') : sIf c a b ρ S = a ρ S' := by
  unfold sIf
  rw [m_bind, h] <;> rfl
theorem ret_at {a : Env → M Dat} {d : Dat} (h : a ρ S = .ok d S') : sRet a ρ S = .ok (.rt d) S' := by
  unfold sRet
  rw [m_bind, h] <;> rfl
theorem not_at {a : Env → M Bool} {b : Bool} (h : a ρ S = .ok b S') : bNot a ρ S = .ok (!b) S' := by
  unfold bNot
  rw [m_bind, h] <;> rfl
theorem test_at {a : Env → M Dat} {b : Bool} (h : a ρ S = .ok (.bl b) S') : bTest a ρ S = .ok b S' := by
  unfold bTest
  rw [m_bind, h] <;> rfl
theorem or_f {a b : Env → M Bool} (h : a ρ S = .ok false S') : bOr a b ρ S = b ρ S' := by
  unfold bOr
  rw [m_bind, h] <;> rfl
theorem and_t {a b : Env → M Dat} (h : a ρ S = .ok (.bl true) S') : xAnd a b ρ S = b ρ S' := by
  unfold xAnd
  rw [m_bind, test_at h] <;> rfl
theorem or_fV {a b : Env → M Dat} (h : a ρ S = .ok (.bl false) S') : xOr a b ρ S = b ρ S' := by
  unfold xOr
  rw [m_bind, test_at h] <;> rfl
theorem calm_at {m : M Dat} {d : Dat} (h : m S = .ok d S') : calm m S = .ok d S' := by
  unfold calm
  rw [h]
theorem call_at {f : List Dat → M Dat} {l : Env → M (List Dat)} {ds : List Dat} {d : Dat} (hl : l ρ S = .ok ds S1) (h : f ds S1 = .ok d S') : xCall f l ρ S = .ok d S' := by
  unfold xCall
  rw [m_bind, hl]
  exact calm_at h
theorem cb_at {f : List Dat → M Dat} {l : Env → M (List Dat)} {ds : List Dat} {d : Dat} (hl : l ρ S = .ok ds S1) (h : f ds S1 = .ok d S') : xCB f l ρ S = .ok d S' := by
  unfold xCB
  rw [m_bind, hl] <;> exact h
theorem op_at {f : Dat → Dat → M Dat} {a b : Env → M Dat} {x y d : Dat} (ha : a ρ S = .ok x S) (hb : b ρ S = .ok y S) (h : f x y S = .ok d S) : xOp f a b ρ S = .ok d S := by
  unfold xOp
  rw [m_bind, ha]
  show ((b ρ >>= fun y => f x y) : M Dat) S = _
  rw [m_bind, hb] <;> exact h
theorem one_at {a : Env → M Dat} {x : Dat} (h : a ρ S = .ok x S) : xCons a xNil ρ S = .ok [x] S := by
  unfold xCons
  rw [m_bind, h] <;> rfl
theorem comp_at {f : Dat → Dat} {e : Env → M Dat} {i : Nat} : ∀ {ds : List Dat}, (∀ d, d ∈ ds → e (ρ.set i (some d)) S = .ok (f d) S) → compD (gN i) bYes e ρ ds S = .ok (ds.map f) S
  | [], _ => rfl
  | d :: ds, h => by
    have h1 := h d List.mem_cons_self
    have h2 := comp_at (f := f) (e := e) (i := i) fun d hd => h d (List.mem_cons_of_mem _ hd)
    unfold compD
    show ((e (ρ.set i (some d)) >>= fun x => compD (gN i) bYes e ρ ds >>= fun xs => pure (x :: xs)) : M (List Dat)) S = _
    rw [m_bind, h1]
    show ((compD (gN i) bYes e ρ ds >>= fun xs => pure (f d :: xs)) : M (List Dat)) S = _
    rw [m_bind, h2] <;> rfl
theorem lc_at {f : Dat → Dat} {it : Env → M (List Dat)} {e : Env → M Dat} {i : Nat} {vs : List Nat} {ds : List Dat} (hi : it ρ S = .ok ds S) (hl : ds.length ≤ 1000) (h : ∀ d, d ∈ ds → e ((wipeE ρ vs).set i (some d)) S = .ok (f d) S) :
    xLc it (gN i) bYes e vs ρ S = .ok (.lst (ds.map f)) S := by
  unfold xLc
  rw [m_bind, hi]
  show ((M.need (decide (ds.length ≤ 100000)) >>= fun _ => compD (gN i) bYes e (wipeE ρ vs) ds >>= fun es => pure (.lst es)) : M Dat) S = _
  rw [decide_eq_true (show ds.length ≤ 100000 by omega)]
  show ((compD (gN i) bYes e (wipeE ρ vs) ds >>= fun es => pure (.lst es)) : M Dat) S = _
  rw [m_bind, comp_at h] <;> rfl
theorem bls_true : ∀ ds : List Dat, blsOf (ds.map fun _ => .bl true) = some (ds.map fun _ => true)
  | [] => rfl
  | d :: r => by
    rw [List.map_cons]
    unfold blsOf
    rw [bls_true r] <;> rfl
theorem all_at {it : Env → M (List Dat)} {e : Env → M Dat} {i : Nat} {vs : List Nat} {ds : List Dat} (hi : it ρ S = .ok ds S) (hl : ds.length ≤ 1000) (h : ∀ d, d ∈ ds → e ((wipeE ρ vs).set i (some d)) S = .ok (.bl true) S) :
    xCB dAll (xCons (xLc it (gN i) bYes e vs) xNil) ρ S = .ok (.bl true) S := by
  refine cb_at (one_at (lc_at (f := fun _ => .bl true) hi hl h)) ?_
  show ((M.opt (blsOf (ds.map fun _ => .bl true)) >>= fun bs => pure (.bl (bs.all id))) : M Dat) S = _
  rw [bls_true]
  show Out.ok (Dat.bl ((ds.map fun _ => true).all id)) S = _
  have e : (ds.map fun _ => true).all id = true := by
    rw [List.all_eq_true]
    intro x hx
    obtain ⟨_, _, rfl⟩ := List.mem_map.mp hx
    rfl
  rw [e]
/-- a loop that only looks -/
theorem for_at {b : Env → M Flow} {i : Nat} : ∀ {ds : List Dat} {ρ : Env}, (∀ d, d ∈ ds → b (ρ.set i (some d)) S = .ok (.nx (ρ.set i (some d))) S) → ∃ ρ', forD (gN i) b ds ρ S = .ok (.nx ρ') S ∧ ρ'.set i none = ρ.set i none
  | [], ρ, _ => ⟨ρ, rfl, rfl⟩
  | d :: ds, ρ, h => by
    obtain ⟨ρ', e, k⟩ := for_at (b := b) (i := i) (ds := ds) (ρ := ρ.set i (some d)) fun x hx => by
      rw [List.set_set]
      exact h x (List.mem_cons_of_mem _ hx)
    refine ⟨ρ', ?_, by rw [k, List.set_set]⟩
    unfold forD
    show ((b (ρ.set i (some d)) >>= fun f => match f with | .nx ρ2 => forD (gN i) b ds ρ2 | .ct ρ2 => forD (gN i) b ds ρ2 | .bk ρ2 => pure (.nx ρ2) | .rt d => pure (.rt d)) : M Flow) S = _
    rw [m_bind, h d List.mem_cons_self]
    exact e
theorem sfor_at {it : Env → M (List Dat)} {g : Env → Dat → Option Env} {b : Env → M Flow} {ds : List Dat} {f : Flow} (hi : it ρ S = .ok ds S) (h : forD g b ds ρ S = .ok f S') : sFor it g b ρ S = .ok f S' := by
  unfold sFor
  rw [m_bind, hi] <;> exact h
theorem strsD_map : ∀ ss : List Str, strsD (ss.map .str) = some ss
  | [] => rfl
  | s :: r => by
    rw [List.map_cons]
    unfold strsD
    rw [strsD_map r] <;> rfl
theorem in_at {neg : Bool} {c : Str} {cs : List Str} (h : c ∈ cs) : dInS neg (.str c) (tupS cs) S = .ok (.bl (!neg)) S := by
  unfold dInS
  have e : ((itemsOf (tupS cs)).bind strsD) = some cs := strsD_map cs
  rw [e]
  show Out.ok (Dat.bl (neg != isS (.str c) cs)) S = _
  have e2 : isS (.str c) cs = true := by
    show (cs.any fun z => z == c) = true
    exact List.any_eq_true.mpr ⟨c, h, beq_self_eq_true c⟩
  rw [e2]
  cases neg <;> rfl
end
/-! ### rows -/
def fstD : Dat → Dat
  | .tup (x :: _) => x
  | d => d
theorem sub_mem : ∀ {ss cs : List Str}, ss.Sublist cs → ss ∈ subs cs
  | _, _, .slnil => List.mem_singleton.mpr rfl
  | _, _, .cons a h => List.mem_append_left _ (sub_mem h)
  | _, _, .cons₂ a h => List.mem_append_right _ (List.mem_map.mpr ⟨_, sub_mem h, rfl⟩)
theorem nsets_len : ∀ cs, cs ∈ nsets → cs.length ≤ 3 ∧ 1 ≤ cs.length := by decide +kernel
/-- rows, one a column, some left out -/
structure Rows (P : Str → Dat → Prop) (cs : List Str) (ds : List Dat) : Prop where
  at_ : ∀ d, d ∈ ds → ∃ c, c ∈ cs ∧ P c d
  fs : ∃ ss : List Str, ss.Sublist cs ∧ ds.map fstD = ss.map .str
theorem Rows.len {P : Str → Dat → Prop} {cs : List Str} {ds : List Dat} (h : Rows P cs ds) : ds.length ≤ cs.length := by
  obtain ⟨ss, s, e⟩ := h.fs
  have := s.length_le
  have e2 := congrArg List.length e
  rw [List.length_map, List.length_map] at e2
  omega
theorem rows3 {P : Str → Dat → Prop} {cs : List Str} {ds : List Dat} {S : List Dat} (hc : cs ∈ nsets) (h : Rows P cs ds) (hP : ∀ c d, P c d → ∃ x y, d = .tup [.str c, x, y]) : L__are_rows [tupS cs, .tup ds, .int 3] S = .ok (.bl true) S := by
  refine run_at ?_
  rw [seq_at (ρ' := [some (tupS cs), some (.tup ds), some (.int 3), none]) (S' := S) rfl]
  obtain ⟨ρ', e, k⟩ := for_at (S := S) (b := sIf (bOr (bNot (bTest (xCall L_is_tuple_of (xCons (xVar 3) (xCons (xVar 2) (xCons (xVar 2) xNil)))))) (bTest (xOp (dInS true) (xOp dIxT (xVar 3) (xC (.int 0))) (xVar 0)))) (sRet (xC (.bl false))) sNx) (i := 3) (ds := ds) (ρ := [some (tupS cs), some (.tup ds), some (.int 3), none]) fun d hd => by
    obtain ⟨c, hc, p⟩ := h.at_ d hd
    obtain ⟨x, y, rfl⟩ := hP c d p
    rw [if_f (S' := S)]
    · rfl
    · rw [or_f (S' := S) rfl]
      exact test_at (op_at (x := .str c) (y := tupS cs) rfl rfl (in_at hc))
  rw [seq_at (ρ' := ρ') (S' := S) (sfor_at (ds := ds) rfl e)]
  have sh : ∃ z, ρ' = [some (tupS cs), some (.tup ds), some (.int 3), z] := by
    match ρ', k with
    | [a, b, c, d], k => cases k; exact ⟨d, rfl⟩
  obtain ⟨z, rfl⟩ := sh
  obtain ⟨ss, s, ef⟩ := h.fs
  refine ret_at (call_at (one_at (lc_at (f := fstD) (ds := ds) rfl ?_ fun d hd => ?_)) (S1 := S) ?_)
  · have := h.len
    have := nsets_len cs hc
    omega
  · obtain ⟨c, hc, p⟩ := h.at_ d hd
    obtain ⟨x, y, rfl⟩ := hP c d p
    rfl
  · rw [ef]
    exact map_eq (asc_at S) (cs, ss) (mem_sub hc (sub_mem s))
end Zd

namespace Zd
open PySem PySem.Spec PyProof.Rows L2 Zg
section
variable {S : List Dat}
theorem in_atL {neg : Bool} {c : Str} {cs : List Str} (h : c ∈ cs) : dInS neg (.str c) (lstS cs) S = .ok (.bl (!neg)) S := in_at (cs := cs) h
theorem eqS_at {a b : Str} : dEq (.str a) (.str b) S = .ok (.bl (decide (a = b))) S := by
  show Out.ok (Dat.bl (decide (V.str a = V.str b))) S = _
  have e : decide (V.str a = V.str b) = decide (a = b) := by
    by_cases h : a = b
    · rw [decide_eq_true h, decide_eq_true (congrArg V.str h)]
    · rw [decide_eq_false h, decide_eq_false fun z => h (V.str.inj z)]
  rw [e]
theorem neS_at {a b : Str} : dNe (.str a) (.str b) S = .ok (.bl (!decide (a = b))) S := by
  show Out.ok (Dat.bl (!decide (V.str a = V.str b))) S = _
  have e : decide (V.str a = V.str b) = decide (a = b) := by
    by_cases h : a = b
    · rw [decide_eq_true h, decide_eq_true (congrArg V.str h)]
    · rw [decide_eq_false h, decide_eq_false fun z => h (V.str.inj z)]
  rw [e]
theorem rows5 {P : Str → Dat → Prop} {cs : List Str} {ds : List Dat} (hc : cs ∈ nsets) (h : Rows P cs ds) (hP : ∀ c d, P c d → ∃ x y z u, d = .tup [.str c, x, y, z, u]) : L__are_rows [tupS cs, .tup ds, .int 5] S = .ok (.bl true) S := by
  refine run_at ?_
  rw [seq_at (ρ' := [some (tupS cs), some (.tup ds), some (.int 5), none]) (S' := S) rfl]
  obtain ⟨ρ', e, k⟩ := for_at (S := S) (b := sIf (bOr (bNot (bTest (xCall L_is_tuple_of (xCons (xVar 3) (xCons (xVar 2) (xCons (xVar 2) xNil)))))) (bTest (xOp (dInS true) (xOp dIxT (xVar 3) (xC (.int 0))) (xVar 0)))) (sRet (xC (.bl false))) sNx) (i := 3) (ds := ds) (ρ := [some (tupS cs), some (.tup ds), some (.int 5), none]) fun d hd => by
    obtain ⟨c, hc, p⟩ := h.at_ d hd
    obtain ⟨x, y, z, u, rfl⟩ := hP c d p
    rw [if_f (S' := S)]
    · rfl
    · rw [or_f (S' := S) rfl]
      exact test_at (op_at (x := .str c) (y := tupS cs) rfl rfl (in_at hc))
  rw [seq_at (ρ' := ρ') (S' := S) (sfor_at (ds := ds) rfl e)]
  have sh : ∃ z, ρ' = [some (tupS cs), some (.tup ds), some (.int 5), z] := by
    match ρ', k with
    | [a, b, c, d], k => cases k; exact ⟨d, rfl⟩
  obtain ⟨z, rfl⟩ := sh
  obtain ⟨ss, s, ef⟩ := h.fs
  refine ret_at (call_at (one_at (lc_at (f := fstD) (ds := ds) rfl ?_ fun d hd => ?_)) (S1 := S) ?_)
  · have := h.len
    have := nsets_len cs hc
    omega
  · obtain ⟨c, hc, p⟩ := h.at_ d hd
    obtain ⟨x, y, z, u, rfl⟩ := hP c d p
    rfl
  · rw [ef]
    exact map_eq (asc_at S) (cs, ss) (mem_sub hc (sub_mem s))
/-- a row of reads -/
def RdRow (first : Bool) (c : Str) (d : Dat) : Prop := ∃ (side : Str) (deeds : List Str), side ∈ sidesL ∧ (first = true → side ∈ (["narrow", "either"] : List Str)) ∧ deeds ∈ deedsL ∧ d = .tup [.str c, .str side, tupS deeds]
theorem read_ok {first : Bool} {c : Str} {d : Dat} (h : RdRow first c d) : L__is_read [d] S = .ok (.bl true) S := by
  obtain ⟨side, deeds, h1, _, h2, rfl⟩ := h
  exact map_eq (read_at S c) (side, deeds) (mem_prs h1 h2)
/-- a row of writes -/
def WrRow (first : Bool) (srcs : List Str) (c : Str) (d : Dat) : Prop := ∃ (how rule src : Str) (pace : Int), how ∈ howsL ∧ (first = true → how = "narrow") ∧ rule ∈ rulesL ∧ pace ∈ pacesL ∧ (src ≠ "" → src ∈ srcs ∧ src ≠ c) ∧ d = .tup [.str c, .str how, .str rule, .str src, .int pace]
abbrev wrC : Env → M Bool := bOr (bTest (xOp (dInS true) (xVar 3) (xC (strsT ["narrow", "wide", "both", "narrow first", "wide first"])))) (bOr (bTest (xOp (dInS true) (xVar 4) (xC (strsT ["cut", "empty", "refuse"])))) (bNot (bTest (xCall L_is_between (xCons (xVar 6) (xCons (xC (.int 0)) (xCons (xC (.int 99)) xNil)))))))
theorem wrC_at (l r : Dat) (c src : Dat) (S : List Dat) : ((prs howsL (prs rulesL pacesL)).map fun q : Str × Str × Int => wrC [some l, some r, some c, some (.str q.1), some (.str q.2.1), some src, some (.int q.2.2)] S) = (prs howsL (prs rulesL pacesL)).map fun _ => .ok false S := by kernel_rfl
theorem write_ok {first : Bool} {srcs : List Str} {c : Str} {d : Dat} (h : WrRow first srcs c d) : L__is_write [lstS srcs, d] S = .ok (.bl true) S := by
  obtain ⟨how, rule, src, pace, h1, _, h2, h3, h4, rfl⟩ := h
  refine run_at ?_
  rw [seq_at (ρ' := [some (lstS srcs), some (.tup [.str c, .str how, .str rule, .str src, .int pace]), some (.str c), some (.str how), some (.str rule), some (.str src), some (.int pace)]) (S' := S) rfl]
  have e : wrC [some (lstS srcs), some (.tup [.str c, .str how, .str rule, .str src, .int pace]), some (.str c), some (.str how), some (.str rule), some (.str src), some (.int pace)] S = .ok false S := map_eq (wrC_at (lstS srcs) _ _ _ S) (how, rule, pace) (mem_prs h1 (mem_prs h2 h3))
  rw [seq_at (S' := S) ((if_f e).trans rfl)]
  refine ret_at ?_
  by_cases hs : src = ""
  · subst hs
    rfl
  · obtain ⟨k1, k2⟩ := h4 hs
    rw [or_fV (S' := S) (op_at (x := .str src) (y := .str "") rfl rfl (by rw [eqS_at, decide_eq_false hs]))]
    rw [and_t (S' := S) (op_at (x := .str src) (y := lstS srcs) rfl rfl (in_atL k1))]
    exact op_at (x := .str src) (y := .str c) rfl rfl (by rw [neS_at, decide_eq_false k2] <;> rfl)
def firsts (ds : List Dat) : List Str := (strsD (ds.map fstD)).getD []
theorem firsts_of {ds : List Dat} {ss : List Str} (h : ds.map fstD = ss.map .str) : firsts ds = ss := by
  unfold firsts
  rw [h, strsD_map] <;> rfl
/-- an edition -/
structure Edn (first : Bool) (cs : List Str) (sight : Str) (rs ws : List Dat) : Prop where
  s : sight ∈ (["narrow", "wide"] : List Str)
  r : Rows (RdRow first) cs rs
  w : Rows (WrRow first (firsts rs)) cs ws
def EdnD (first : Bool) (cs : List Str) (d : Dat) : Prop := ∃ (sight : Str) (rs ws : List Dat), d = .tup [.str sight, .tup rs, .tup ws] ∧ Edn first cs sight rs ws
theorem sight_at (a b c d e : Option Dat) (S : List Dat) : ((["narrow", "wide"] : List Str).map fun q : Str => bTest (xOp (dInS true) (xVar 2) (xC (strsT ["narrow", "wide"]))) [a, b, some (.str q), c, d, e, none] S) = (["narrow", "wide"] : List Str).map fun _ => .ok false S := by kernel_rfl
theorem edition_ok {first : Bool} {cs : List Str} {d : Dat} (hc : cs ∈ nsets) (h : EdnD first cs d) : L__is_edition [tupS cs, d] S = .ok (.bl true) S := by
  obtain ⟨sight, rs, ws, rfl, E⟩ := h
  refine run_at ?_
  rw [seq_at (ρ' := [some (tupS cs), some (.tup [.str sight, .tup rs, .tup ws]), none, none, none, none, none]) (S' := S) rfl]
  rw [seq_at (ρ' := [some (tupS cs), some (.tup [.str sight, .tup rs, .tup ws]), some (.str sight), some (.tup rs), some (.tup ws), none, none]) (S' := S) rfl]
  have ls := nsets_len cs hc
  have lr := E.r.len
  have lw := E.w.len
  have c1 := map_eq (sight_at (some (tupS cs)) (some (.tup [.str sight, .tup rs, .tup ws])) (some (.tup rs)) (some (.tup ws)) none S) sight E.s
  have c2 : L__are_rows [tupS cs, .tup rs, .int 3] S = .ok (.bl true) S := rows3 hc E.r fun c d ⟨side, deeds, _, _, _, e⟩ => ⟨_, _, e⟩
  have c3 : L__are_rows [tupS cs, .tup ws, .int 5] S = .ok (.bl true) S := rows5 hc E.w fun c d ⟨how, rule, src, pace, _, _, _, _, _, e⟩ => ⟨_, _, _, _, e⟩
  rw [seq_at (S' := S) ((if_f (S' := S) ?_).trans rfl)]
  rotate_left
  · rw [or_f (S' := S) c1]
    rw [or_f (S' := S) (not_at (test_at (call_at (S1 := S) (ds := [tupS cs, .tup rs, .int 3]) rfl c2)))]
    exact not_at (test_at (call_at (S1 := S) (ds := [tupS cs, .tup ws, .int 5]) rfl c3))
  rw [seq_at (S' := S) ((if_f (S' := S) (not_at (test_at (all_at (ds := rs) rfl (by omega) fun d hd => ?_)))).trans rfl)]
  rotate_left
  · obtain ⟨c, _, p⟩ := E.r.at_ d hd
    exact call_at (S1 := S) (ds := [d]) rfl (read_ok p)
  obtain ⟨ss, s, ef⟩ := E.r.fs
  have c4 := lc_at (S := S) (ρ := [some (tupS cs), some (.tup [.str sight, .tup rs, .tup ws]), some (.str sight), some (.tup rs), some (.tup ws), none, none]) (f := fstD) (it := iTp (xVar 3)) (e := xOp dIxT (xVar 6) (xC (.int 0))) (i := 6) (vs := [6]) (ds := rs) rfl (by omega) fun d hd => by
    obtain ⟨c, _, side, deeds, _, _, _, rfl⟩ := E.r.at_ d hd
    rfl
  rw [ef] at c4
  have fe := firsts_of ef
  rw [seq_at (ρ' := [some (tupS cs), some (.tup [.str sight, .tup rs, .tup ws]), some (.str sight), some (.tup rs), some (.tup ws), some (lstS ss), none]) (S' := S) (by
    unfold sAsg
    rw [m_bind, c4] <;> rfl)]
  refine ret_at (all_at (ds := ws) rfl (by omega) fun d hd => ?_)
  obtain ⟨c, _, p⟩ := E.w.at_ d hd
  rw [fe] at p
  exact call_at (S1 := S) (ds := [lstS ss, d]) rfl (write_ok p)
end
end Zd

namespace Zd
open PySem PySem.Spec PyProof.Rows L2 Zg
section
variable {S : List Dat} {ρ : Env}
theorem tup13 {ds : List Dat} (h1 : 1 ≤ ds.length) (h3 : ds.length ≤ 3) : L_is_tuple_of [.tup ds, .int 1, .int 3] S = .ok (.bl true) S := by
  match ds, h1, h3 with
  | [_], _, _ => rfl
  | [_, _], _, _ => rfl
  | [_, _, _], _, _ => rfl
theorem first_ok {cs : List Str} {d : Dat} (hc : cs ∈ nsets) (h : EdnD true cs d) : L__is_first_edition [d] S = .ok (.bl true) S := by
  obtain ⟨sight, rs, ws, rfl, E⟩ := h
  have ls := nsets_len cs hc
  have lr := E.r.len
  have lw := E.w.len
  refine run_at ?_
  rw [seq_at (ρ' := [some (.tup [.str sight, .tup rs, .tup ws]), some (.str sight), some (.tup rs), some (.tup ws), none]) (S' := S) rfl]
  rw [seq_at (S' := S) ((if_f (S' := S) (not_at (test_at (all_at (ds := rs) rfl (by omega) fun d hd => ?_)))).trans rfl)]
  rotate_left
  · obtain ⟨c, _, side, deeds, _, k, _, rfl⟩ := E.r.at_ d hd
    exact op_at (x := .str side) (y := tupS ["narrow", "either"]) rfl rfl (in_at (k rfl))
  refine ret_at (all_at (ds := ws) rfl (by omega) fun d hd => ?_)
  obtain ⟨c, _, how, rule, src, pace, _, k, _, _, _, rfl⟩ := E.w.at_ d hd
  refine op_at (x := .str how) (y := .str "narrow") rfl rfl ?_
  rw [eqS_at, decide_eq_true (k rfl)]
/-- a program -/
structure Pgm (cs : List Str) (name : Str) (eds : List Dat) : Prop where
  n : name ∈ NM
  l1 : 1 ≤ eds.length
  l3 : eds.length ≤ 3
  all : ∀ e, e ∈ eds → ∃ first, EdnD first cs e
  one : ∀ e r, eds = e :: r → EdnD true cs e
def PgmD (cs : List Str) (d : Dat) : Prop := ∃ (name : Str) (eds : List Dat), d = .tup [.str name, .tup eds] ∧ Pgm cs name eds
theorem program_ok {cs : List Str} {d : Dat} (hc : cs ∈ nsets) (h : PgmD cs d) : L__is_program [tupS cs, d] S = .ok (.bl true) S := by
  obtain ⟨name, eds, rfl, E⟩ := h
  refine run_at ?_
  rw [seq_at (ρ' := [some (tupS cs), some (.tup [.str name, .tup eds]), none, none, none]) (S' := S) rfl]
  rw [seq_at (ρ' := [some (tupS cs), some (.tup [.str name, .tup eds]), some (.str name), some (.tup eds), none]) (S' := S) rfl]
  rw [seq_at (S' := S) ((if_f (S' := S) ?_).trans rfl)]
  rotate_left
  · rw [or_f (S' := S) (not_at (test_at (call_at (S1 := S) (ds := [.str name]) rfl (map_eq (is_name_at S) name E.n))))]
    exact not_at (test_at (call_at (S1 := S) (ds := [.tup eds, .int 1, .int 3]) rfl (tup13 E.l1 E.l3)))
  have l3 := E.l3
  rw [seq_at (S' := S) ((if_f (S' := S) (not_at (test_at (all_at (ds := eds) rfl (by omega) fun d hd => ?_)))).trans rfl)]
  rotate_left
  · obtain ⟨f, k⟩ := E.all d hd
    exact call_at (S1 := S) (ds := [tupS cs, d]) rfl (edition_ok hc k)
  match eds, E, l3 with
  | [], E, _ => exact absurd E.l1 (by decide)
  | [e], E, _ => exact ret_at (call_at (S1 := S) (ds := [e]) rfl (first_ok hc (E.one e _ rfl)))
  | [e, _], E, _ => exact ret_at (call_at (S1 := S) (ds := [e]) rfl (first_ok hc (E.one e _ rfl)))
  | [e, _, _], E, _ => exact ret_at (call_at (S1 := S) (ds := [e]) rfl (first_ok hc (E.one e _ rfl)))
/-! ### how many are written in two events -/
def lateR (d : Dat) : Bool := match d with
  | .tup (_ :: .str how :: _) => isS (.str how) ["narrow first", "wide first"]
  | _ => false
def cntE (d : Dat) : Nat := match d with
  | .tup [_, _, .tup ws] => (ws.filter lateR).length
  | _ => 0
def cntP (d : Dat) : Nat := match d with
  | .tup [_, .tup eds] => (eds.map cntE).sum
  | _ => 0
theorem filt_at {t : Dat → Bool} {c : Env → M Bool} {i : Nat} : ∀ {ds : List Dat}, i < ρ.length → (∀ d, d ∈ ds → c (ρ.set i (some d)) S = .ok (t d) S) → compD (gN i) c (xVar i) ρ ds S = .ok (ds.filter t) S
  | [], _, _ => rfl
  | d :: ds, li, h => by
    have h1 := h d List.mem_cons_self
    have h2 := filt_at (t := t) (c := c) (i := i) li fun d hd => h d (List.mem_cons_of_mem _ hd)
    unfold compD
    show ((c (ρ.set i (some d)) >>= fun b => if b = true then xVar i (ρ.set i (some d)) >>= fun x => compD (gN i) c (xVar i) ρ ds >>= fun xs => pure (x :: xs) else compD (gN i) c (xVar i) ρ ds) : M (List Dat)) S = _
    rw [m_bind, h1]
    cases q : t d with
    | false =>
      rw [List.filter_cons_of_neg (by rw [q]; decide)]
      exact h2
    | true =>
      rw [List.filter_cons_of_pos q]
      show ((xVar i (ρ.set i (some d)) >>= fun x => compD (gN i) c (xVar i) ρ ds >>= fun xs => pure (x :: xs)) : M (List Dat)) S = _
      have hv : xVar i (ρ.set i (some d)) S = .ok d S := by
        unfold xVar
        rw [List.getElem?_set_self li] <;> rfl
      rw [m_bind, hv]
      show ((compD (gN i) c (xVar i) ρ ds >>= fun xs => pure (d :: xs)) : M (List Dat)) S = _
      rw [m_bind, h2] <;> rfl
theorem asg_at {a : Env → M Dat} {g : Env → Dat → Option Env} {d : Dat} {ρ' : Env} (h : a ρ S = .ok d S) (e : g ρ d = some ρ') : sAsg a g ρ S = .ok (.nx ρ') S := by
  unfold sAsg
  rw [m_bind, h]
  show ((M.opt (g ρ d) >>= fun ρ' => pure (.nx ρ')) : M Flow) S = _
  rw [e] <;> rfl
theorem at_one {x y : Dat} {r : List Dat} : atI (x :: y :: r) 1 = some y := by
  unfold atI ixN
  simp
  rw [if_pos (by omega)]
  rfl
abbrev manyB : Env → M Flow := sAsg (xOp dAdd (xVar 1) (xCB dLen (xCons (xLc (iTp (xVar 4)) (gN 5) (bTest (xOp (dInS false) (xOp dIxT (xVar 5) (xC (.int 1))) (xC (strsT ["narrow first", "wide first"])))) (xVar 5) [5]) xNil))) (gN 1)
theorem manyB_at {a b c e f : Option Dat} {n : Int} {ws : List Dat} {cs : List Str} {P : Str → Dat → Prop} (l : ws.length ≤ 1000) (h : ∀ d, d ∈ ws → ∃ x how r, d = .tup (x :: .str how :: r)) :
    manyB [a, some (.int n), b, c, some (.tup ws), e] S = .ok (.nx [a, some (.int (n + (ws.filter lateR).length)), b, c, some (.tup ws), e]) S := by
  refine asg_at (d := .int (n + (ws.filter lateR).length)) (op_at (x := .int n) (y := .int (ws.filter lateR).length) rfl (cb_at (S1 := S) (ds := [.lst (ws.filter lateR)]) (one_at ?_) rfl) rfl) rfl
  unfold xLc
  rw [m_bind, show iTp (xVar 4) [a, some (.int n), b, c, some (.tup ws), e] S = .ok ws S from rfl]
  show ((M.need (decide (ws.length ≤ 100000)) >>= fun _ => compD (gN 5) _ (xVar 5) [a, some (.int n), b, c, some (.tup ws), none] ws >>= fun es => pure (.lst es)) : M Dat) S = _
  rw [decide_eq_true (show ws.length ≤ 100000 by omega)]
  show ((compD (gN 5) _ (xVar 5) [a, some (.int n), b, c, some (.tup ws), none] ws >>= fun es => pure (.lst es)) : M Dat) S = _
  have hf := filt_at (S := S) (ρ := [a, some (.int n), b, c, some (.tup ws), none]) (t := lateR) (i := 5) (c := bTest (xOp (dInS false) (xOp dIxT (xVar 5) (xC (.int 1))) (xC (strsT ["narrow first", "wide first"])))) (ds := ws) (show 5 < 6 by decide) fun d hd => by
    obtain ⟨x, how, r, rfl⟩ := h d hd
    refine test_at (op_at (x := .str how) (y := strsT ["narrow first", "wide first"]) (op_at (x := .tup (x :: .str how :: r)) (y := .int 1) rfl rfl ?_) rfl ?_)
    · show M.opt (atI (x :: .str how :: r) 1) S = _
      rw [at_one] <;> rfl
    · show Out.ok (Dat.bl (false != isS (.str how) ["narrow first", "wide first"])) S = _
      have e : (false != isS (.str how) ["narrow first", "wide first"]) = isS (.str how) ["narrow first", "wide first"] := by cases isS (.str how) ["narrow first", "wide first"] <;> rfl
      rw [e] <;> rfl
  rw [m_bind, hf] <;> rfl
def edShape (e : Dat) : Prop := ∃ s r ws, e = .tup [s, r, .tup ws] ∧ ws.length ≤ 1000 ∧ ∀ d, d ∈ ws → ∃ x how r, d = .tup (x :: .str how :: r)
theorem many_in : ∀ {eds : List Dat} {a b c d e : Option Dat} {n : Int}, (∀ x, x ∈ eds → edShape x) →
    ∃ b' d', forD (gT 3 (gCo (gN 2) (gCo (gN 2) (gCo (gN 4) gNl)))) manyB eds [a, some (.int n), b, c, d, e] S = .ok (.nx [a, some (.int (n + (eds.map cntE).sum)), b', c, d', e]) S
  | [], a, b, c, d, e, n, _ => ⟨b, d, by
    show Out.ok (Flow.nx _) S = _
    rw [show n + (((([] : List Dat).map cntE).sum : Nat) : Int) = n by simp]⟩
  | x :: eds, a, b, c, d, e, n, h => by
    obtain ⟨s, r, ws, rfl, l, hw⟩ := h x List.mem_cons_self
    obtain ⟨b', d', k⟩ := many_in (eds := eds) (a := a) (b := some r) (c := c) (d := some (.tup ws)) (e := e) (n := n + (ws.filter lateR).length) fun y hy => h y (List.mem_cons_of_mem _ hy)
    refine ⟨b', d', ?_⟩
    unfold forD
    show ((manyB [a, some (.int n), some r, c, some (.tup ws), e] >>= fun f => match f with | .nx ρ2 => forD _ manyB eds ρ2 | .ct ρ2 => forD _ manyB eds ρ2 | .bk ρ2 => pure (.nx ρ2) | .rt d => pure (.rt d)) : M Flow) S = _
    rw [m_bind, manyB_at (cs := []) (P := fun _ _ => True) (f := none) l hw]
    rw [show n + ((((Dat.tup [s, r, .tup ws] :: eds).map cntE).sum : Nat) : Int) = n + (ws.filter lateR).length + ((eds.map cntE).sum : Nat) by
      rw [List.map_cons, List.sum_cons]
      show n + ((((ws.filter lateR).length + (eds.map cntE).sum : Nat)) : Int) = _
      omega]
    exact k
def pgShape (p : Dat) : Prop := ∃ s eds, p = .tup [s, .tup eds] ∧ ∀ x, x ∈ eds → edShape x
abbrev manyP : Env → M Flow := sFor (iTp (xVar 3)) (gT 3 (gCo (gN 2) (gCo (gN 2) (gCo (gN 4) gNl)))) manyB
theorem many_out : ∀ {ps : List Dat} {a b c d e : Option Dat} {n : Int}, (∀ x, x ∈ ps → pgShape x) →
    ∃ b' c' d', forD (gT 2 (gCo (gN 2) (gCo (gN 3) gNl))) manyP ps [a, some (.int n), b, c, d, e] S = .ok (.nx [a, some (.int (n + (ps.map cntP).sum)), b', c', d', e]) S
  | [], a, b, c, d, e, n, _ => ⟨b, c, d, by
    show Out.ok (Flow.nx _) S = _
    rw [show n + (((([] : List Dat).map cntP).sum : Nat) : Int) = n by simp]⟩
  | x :: ps, a, b, c, d, e, n, h => by
    obtain ⟨s, eds, rfl, hw⟩ := h x List.mem_cons_self
    obtain ⟨b1, d1, k1⟩ := many_in (S := S) (eds := eds) (a := a) (b := some s) (c := some (.tup eds)) (d := d) (e := e) (n := n) hw
    obtain ⟨b', c', d', k⟩ := many_out (ps := ps) (a := a) (b := b1) (c := some (.tup eds)) (d := d1) (e := e) (n := n + (eds.map cntE).sum) fun y hy => h y (List.mem_cons_of_mem _ hy)
    refine ⟨b', c', d', ?_⟩
    unfold forD
    show ((manyP [a, some (.int n), some s, some (.tup eds), d, e] >>= fun f => match f with | .nx ρ2 => forD _ manyP ps ρ2 | .ct ρ2 => forD _ manyP ps ρ2 | .bk ρ2 => pure (.nx ρ2) | .rt d => pure (.rt d)) : M Flow) S = _
    have km : manyP [a, some (.int n), some s, some (.tup eds), d, e] S = _ := sfor_at (ds := eds) rfl k1
    rw [m_bind, km]
    rw [show n + ((((Dat.tup [s, .tup eds] :: ps).map cntP).sum : Nat) : Int) = n + (eds.map cntE).sum + ((ps.map cntP).sum : Nat) by
      rw [List.map_cons, List.sum_cons]
      show n + ((((eds.map cntE).sum + (ps.map cntP).sum : Nat)) : Int) = _
      omega]
    exact k
theorem many_ok {ps : List Dat} (h : ∀ x, x ∈ ps → pgShape x) : L__many_in_two_events [.tup ps] S = .ok (.int (ps.map cntP).sum) S := by
  refine run_at ?_
  rw [seq_at (ρ' := [some (.tup ps), some (.int 0), none, none, none, none]) (S' := S) rfl]
  obtain ⟨b', c', d', k⟩ := many_out (S := S) (ps := ps) (a := some (.tup ps)) (b := none) (c := none) (d := none) (e := none) (n := 0) h
  rw [seq_at (S' := S) (sfor_at (ds := ps) rfl k)]
  rw [show (0 : Int) + ((ps.map cntP).sum : Nat) = ((ps.map cntP).sum : Nat) by omega]
  rfl
theorem EdnD.shape {first : Bool} {cs : List Str} {d : Dat} (hc : cs ∈ nsets) (h : EdnD first cs d) : edShape d := by
  obtain ⟨sight, rs, ws, rfl, E⟩ := h
  have ls := nsets_len cs hc
  have lw := E.w.len
  refine ⟨_, _, ws, rfl, by omega, fun d hd => ?_⟩
  obtain ⟨c, _, how, rule, src, pace, _, k, _, _, _, rfl⟩ := E.w.at_ d hd
  exact ⟨_, _, _, rfl⟩
theorem PgmD.shape {cs : List Str} {d : Dat} (hc : cs ∈ nsets) (h : PgmD cs d) : pgShape d := by
  obtain ⟨name, eds, rfl, E⟩ := h
  exact ⟨_, eds, rfl, fun x hx => (E.all x hx).elim fun f k => k.shape hc⟩
/-- the programs of a world -/
structure Pgms (cs : List Str) (ps : List Dat) : Prop where
  all : ∀ p, p ∈ ps → PgmD cs p
  fs : ∃ ss, ss ∈ nsets ∧ ps.map fstD = ss.map .str
  two : (ps.map cntP).sum ≤ 2
theorem comp_at2 {f : Dat → Dat} {e : Env → M Dat} {g : Env → Dat → Option Env} : ∀ {ds : List Dat}, (∀ d, d ∈ ds → ∃ ρ1, g ρ d = some ρ1 ∧ e ρ1 S = .ok (f d) S) → compD g bYes e ρ ds S = .ok (ds.map f) S
  | [], _ => rfl
  | d :: ds, h => by
    obtain ⟨ρ1, h0, h1⟩ := h d List.mem_cons_self
    have h2 := comp_at2 (f := f) (e := e) (g := g) fun d hd => h d (List.mem_cons_of_mem _ hd)
    unfold compD
    rw [h0]
    show ((e ρ1 >>= fun x => compD g bYes e ρ ds >>= fun xs => pure (x :: xs)) : M (List Dat)) S = _
    rw [m_bind, h1]
    show ((compD g bYes e ρ ds >>= fun xs => pure (f d :: xs)) : M (List Dat)) S = _
    rw [m_bind, h2] <;> rfl
theorem programs_ok {cs : List Str} {ps : List Dat} (hc : cs ∈ nsets) (h : Pgms cs ps) : L__are_programs [tupS cs, .tup ps] S = .ok (.bl true) S := by
  obtain ⟨ss, hs, ef⟩ := h.fs
  have ls := nsets_len ss hs
  have e2 := congrArg List.length ef
  rw [List.length_map, List.length_map] at e2
  refine run_at ?_
  show sSeq _ _ [some (tupS cs), some (.tup ps), none, none, none] S = _
  rw [seq_at (S' := S) ((if_f (S' := S) (not_at (test_at (call_at (S1 := S) (ds := [.tup ps, .int 1, .int 3]) rfl (tup13 (by omega) (by omega)))))).trans rfl)]
  rw [seq_at (S' := S) ((if_f (S' := S) (not_at (test_at (all_at (ds := ps) rfl (by omega) fun d hd => ?_)))).trans rfl)]
  rotate_left
  · exact call_at (S1 := S) (ds := [tupS cs, d]) rfl (program_ok hc (h.all d hd))
  have c1 : xLc (iTp (xVar 1)) (gT 2 (gCo (gN 3) (gCo (gN 4) gNl))) bYes (xVar 3) [3, 4] [some (tupS cs), some (.tup ps), none, none, none] S = .ok (lstS ss) S := by
    unfold xLc
    rw [m_bind, show iTp (xVar 1) [some (tupS cs), some (.tup ps), none, none, none] S = .ok ps S from rfl]
    show ((M.need (decide (ps.length ≤ 100000)) >>= fun _ => compD _ bYes (xVar 3) [some (tupS cs), some (.tup ps), none, none, none] ps >>= fun es => pure (.lst es)) : M Dat) S = _
    rw [decide_eq_true (show ps.length ≤ 100000 by omega)]
    show ((compD _ bYes (xVar 3) [some (tupS cs), some (.tup ps), none, none, none] ps >>= fun es => pure (.lst es)) : M Dat) S = _
    rw [m_bind, comp_at2 (f := fstD) fun d hd => by
      obtain ⟨name, eds, rfl, _⟩ := h.all d hd
      exact ⟨_, rfl, rfl⟩, ef] <;> rfl
  rw [seq_at (S' := S) ((if_f (S' := S) (not_at (test_at (call_at (S1 := S) (ds := [lstS ss]) (one_at c1) (map_eq (asc_at S) (ss, ss) (mem_sub hs (sub_mem (List.Sublist.refl ss)))))))).trans rfl)]
  refine ret_at (op_at (x := .int (ps.map cntP).sum) (y := .int 2) (call_at (S1 := S) (ds := [.tup ps]) rfl (many_ok fun x hx => (h.all x hx).shape hc)) rfl ?_)
  show Out.ok (Dat.bl (decide (((ps.map cntP).sum : Int) ≤ 2))) S = _
  have t := h.two
  rw [decide_eq_true (show ((ps.map cntP).sum : Int) ≤ 2 by omega)]
end
end Zd

namespace Zd
open PySem PySem.Spec PyProof.Rows L2 Zg
/-! ### trees without places stay as they are -/
def St (k : Nat) (d : Dat) : Prop := noLoc d = true ∧ ∀ S n, k ≤ n → frz S n d = some d
theorem st_str {k : Nat} {s : Str} : St (k + 1) (.str s) := ⟨rfl, fun S n h => by obtain ⟨m, rfl⟩ : ∃ m, n = m + 1 := ⟨n - 1, by omega⟩; rfl⟩
theorem st_int {k : Nat} {i : Int} : St (k + 1) (.int i) := ⟨rfl, fun S n h => by obtain ⟨m, rfl⟩ : ∃ m, n = m + 1 := ⟨n - 1, by omega⟩; rfl⟩
theorem noLocs_of : ∀ {ds : List Dat}, (∀ d, d ∈ ds → noLoc d = true) → noLocs ds = true
  | [], _ => rfl
  | d :: ds, h => by
    unfold noLocs
    rw [h d List.mem_cons_self, noLocs_of fun x hx => h x (List.mem_cons_of_mem _ hx)] <;> rfl
theorem frzs_of {f : Dat → Option Dat} : ∀ {ds : List Dat}, (∀ d, d ∈ ds → f d = some d) → frzs f ds = some ds
  | [], _ => rfl
  | d :: ds, h => by
    unfold frzs
    rw [h d List.mem_cons_self]
    dsimp only
    rw [frzs_of fun x hx => h x (List.mem_cons_of_mem _ hx)]
theorem st_tup {k : Nat} {ds : List Dat} (h : ∀ d, d ∈ ds → St k d) : St (k + 1) (.tup ds) := ⟨by
    rw [noLoc]
    exact noLocs_of fun d hd => (h d hd).1, fun S n hn => by
    obtain ⟨m, rfl⟩ : ∃ m, n = m + 1 := ⟨n - 1, by omega⟩
    unfold frz
    dsimp only
    rw [frzs_of fun d hd => (h d hd).2 S m (by omega)]⟩
theorem st_obj {k : Nat} {c : String} {fs : List Str} {ds : List Dat} (h : ∀ d, d ∈ ds → St k d) : St (k + 1) (.obj c fs ds) := ⟨by
    rw [noLoc]
    exact noLocs_of fun d hd => (h d hd).1, fun S n hn => by
    obtain ⟨m, rfl⟩ : ∃ m, n = m + 1 := ⟨n - 1, by omega⟩
    unfold frz
    dsimp only
    rw [frzs_of fun d hd => (h d hd).2 S m (by omega)]⟩
theorem st_all2 {P : Dat → Prop} {a b : Dat} (ha : P a) (hb : P b) : ∀ d, d ∈ [a, b] → P d := fun d h => by
  rcases List.mem_cons.mp h with h | h
  · rw [h]; exact ha
  · rw [List.mem_singleton.mp h]; exact hb
theorem st_all3 {P : Dat → Prop} {a b c : Dat} (ha : P a) (hb : P b) (hc : P c) : ∀ d, d ∈ [a, b, c] → P d := fun d h => by
  rcases List.mem_cons.mp h with h | h
  · rw [h]; exact ha
  · exact st_all2 hb hc d h
theorem st_all4 {P : Dat → Prop} {a b c e : Dat} (ha : P a) (hb : P b) (hc : P c) (he : P e) : ∀ d, d ∈ [a, b, c, e] → P d := fun d h => by
  rcases List.mem_cons.mp h with h | h
  · rw [h]; exact ha
  · exact st_all3 hb hc he d h
theorem st_strs {k : Nat} {ss : List Str} : St (k + 2) (tupS ss) := st_tup fun d h => by
  obtain ⟨s, _, rfl⟩ := List.mem_map.mp h
  exact st_str
theorem RdRow.st {f : Bool} {c : Str} {d : Dat} (h : RdRow f c d) : St 3 d := by
  obtain ⟨side, deeds, _, _, _, rfl⟩ := h
  exact st_tup (st_all3 st_str st_str st_strs)
theorem WrRow.st {f : Bool} {srcs : List Str} {c : Str} {d : Dat} (h : WrRow f srcs c d) : St 3 d := by
  obtain ⟨how, rule, src, pace, _, _, _, _, _, rfl⟩ := h
  refine st_tup fun d h => ?_
  rcases List.mem_cons.mp h with h | h
  · rw [h]; exact st_str
  · exact st_all4 st_str st_str st_str st_int d h
theorem EdnD.st {f : Bool} {cs : List Str} {d : Dat} (h : EdnD f cs d) : St 5 d := by
  obtain ⟨sight, rs, ws, rfl, E⟩ := h
  exact st_tup (st_all3 st_str (st_tup fun d h => (E.r.at_ d h).elim fun c k => k.2.st) (st_tup fun d h => (E.w.at_ d h).elim fun c k => k.2.st))
theorem PgmD.st {cs : List Str} {d : Dat} (h : PgmD cs d) : St 7 d := by
  obtain ⟨name, eds, rfl, E⟩ := h
  exact st_tup (st_all2 st_str (st_tup fun d h => (E.all d h).elim fun c k => k.st))
theorem Pgms.st {cs : List Str} {ps : List Dat} (h : Pgms cs ps) : St 8 (.tup ps) := st_tup fun d hd => (h.all d hd).st
/-! ### the world that is made -/
abbrev Ki : Type := Int × Int
def kindsL : List (Ki × Ki) := [((0, 15), (0, 99)), ((0, 255), (0, 65535)), ((-8, 20), (-8, 400)), ((-128, 127), (-32768, 32767)), ((0, 999), (0, 99999999999999999))]
def kindO (q : Ki) : Dat := .obj "Kind" ["low", "high", "size"] [.int q.1, .int q.2, .int (q.2 - q.1 + 1)]
theorem kind1_at (S : List Dat) : (kindsL.map fun q => callF (mkNew "Kind" L_Kind___init__) [.int q.1.1, .int q.1.2] S) = kindsL.map fun q => .ok (kindO q.1) S := by kernel_rfl
theorem kind2_at (S : List Dat) : (kindsL.map fun q => callF (mkNew "Kind" L_Kind___init__) [.int q.2.1, .int q.2.2] S) = kindsL.map fun q => .ok (kindO q.2) S := by kernel_rfl
theorem kinds_at (S : List Dat) : (kindsL.map fun q => L__are_kinds [kindO q.1, kindO q.2] S) = kindsL.map fun _ => .ok (.bl true) S := by kernel_rfl
def worldO (k : Ki × Ki) (cs : List Str) (ps : List Dat) : Dat := .obj "World" ["narrow", "wide", "columns", "programs"] [kindO k.1, kindO k.2, tupS cs, .tup ps]
theorem st_kind {q : Ki} : St 2 (kindO q) := st_obj (st_all3 st_int st_int st_int)
section
variable {S : List Dat}
theorem run_nx {N : Nat} {b : Env → M Flow} {ds : List Dat} {ρ' : Env} {S' : List Dat} (h : b (startE N ds) S = .ok (.nx ρ') S') : runD N b ds S = .ok .non S' := by
  unfold runD
  rw [m_bind, h] <;> rfl
theorem world_init {k : Ki × Ki} {cs : List Str} {ps : List Dat} (hk : k ∈ kindsL) (hc : cs ∈ nsets) (h : Pgms cs ps) : L_World___init__ [.loc 0, kindO k.1, kindO k.2, tupS cs, .tup ps] [.obj "World" [] []] = .ok .non [worldO k cs ps] := by
  refine run_nx (ρ' := [some (.loc 0), some (kindO k.1), some (kindO k.2), some (tupS cs), some (.tup ps), some (.bl true)]) ?_
  show sSeq _ _ [some (.loc 0), some (kindO k.1), some (kindO k.2), some (tupS cs), some (.tup ps), none] [.obj "World" [] []] = _
  generalize hS : ([.obj "World" [] []] : List Dat) = S0
  have c1 : L__are_kinds [kindO k.1, kindO k.2] S0 = .ok (.bl true) S0 := map_eq (kinds_at S0) k hk
  have c2 : L__are_columns [tupS cs] S0 = .ok (.bl true) S0 := map_eq (cols_at S0) cs hc
  have c3 : L__are_programs [tupS cs, .tup ps] S0 = .ok (.bl true) S0 := programs_ok hc h
  rw [seq_at (S' := S0) (asg_at (d := .bl true) ((and_t (S' := S0) (call_at (S1 := S0) (ds := [kindO k.1, kindO k.2]) rfl c1)).trans ((and_t (S' := S0) (call_at (S1 := S0) (ds := [tupS cs]) rfl c2)).trans (call_at (S1 := S0) (ds := [tupS cs, .tup ps]) rfl c3))) (ρ' := [some (.loc 0), some (kindO k.1), some (kindO k.2), some (tupS cs), some (.tup ps), some (.bl true)]) rfl)]
  subst hS
  rfl
theorem world_at {k : Ki × Ki} {cs : List Str} {ps : List Dat} (hk : k ∈ kindsL) (hc : cs ∈ nsets) (h : Pgms cs ps) : callF (mkNew "World" L_World___init__) [kindO k.1, kindO k.2, tupS cs, .tup ps] S = .ok (worldO k cs ps) S := by
  have st : ∀ d, d ∈ [kindO k.1, kindO k.2, tupS cs, .tup ps] → St 8 d := st_all4 ⟨st_kind.1, fun S n hn => st_kind.2 S n (by omega)⟩ ⟨st_kind.1, fun S n hn => st_kind.2 S n (by omega)⟩ ⟨(st_strs (k := 0)).1, fun S n hn => (st_strs (k := 0)).2 S n (by omega)⟩ h.st
  have nl : noLocs [kindO k.1, kindO k.2, tupS cs, .tup ps] = true := noLocs_of fun d hd => (st d hd).1
  have e : mkNew "World" L_World___init__ [kindO k.1, kindO k.2, tupS cs, .tup ps] [] = .ok (.loc 0) [worldO k cs ps] := by
    unfold mkNew
    show ((calm (L_World___init__ [.loc 0, kindO k.1, kindO k.2, tupS cs, .tup ps]) >>= fun r => M.need (isNon r) >>= fun _ => pure (.loc 0)) : M Dat) [.obj "World" [] []] = _
    rw [m_bind, calm_at (world_init hk hc h)] <;> rfl
  refine callF_ok nl e (e := worldO k cs ps) ?_ S
  have g : frz [worldO k cs ps] 39 (worldO k cs ps) = some (worldO k cs ps) := (st_obj st).2 _ _ (by decide)
  show (match ([worldO k cs ps] : List Dat)[0]? with | some t => frz [worldO k cs ps] 39 t | none => none) = _
  exact g
/-- a drawn world, as the law has it -/
def wdict (k : Ki × Ki) (cs : List Str) (ps : List Dat) : Dat := .dic [.inr "narrow", .inr "wide", .inr "columns", .inr "programs"] [.tup [.int k.1.1, .int k.1.2], .tup [.int k.2.1, .int k.2.2], tupS cs, .tup ps]
theorem made_ok {k : Ki × Ki} {cs : List Str} {ps : List Dat} (hk : k ∈ kindsL) (hc : cs ∈ nsets) (h : Pgms cs ps) : L__law_made [wdict k cs ps] S = .ok (worldO k cs ps) S := by
  refine run_at ?_
  rw [seq_at (ρ' := [some (wdict k cs ps), some (.tup [.int k.1.1, .int k.1.2]), some (.tup [.int k.2.1, .int k.2.2])]) (S' := S) rfl]
  have k1 : callF (mkNew "Kind" L_Kind___init__) [.int k.1.1, .int k.1.2] S = .ok (kindO k.1) S := map_eq (kind1_at S) k hk
  have k2 : callF (mkNew "Kind" L_Kind___init__) [.int k.2.1, .int k.2.2] S = .ok (kindO k.2) S := map_eq (kind2_at S) k hk
  refine ret_at (call_at (S1 := S) (ds := [kindO k.1, kindO k.2, tupS cs, .tup ps]) ?_ (world_at hk hc h))
  unfold xCons
  rw [m_bind, call_at (S1 := S) (ds := [.int k.1.1, .int k.1.2]) rfl k1]
  dsimp only
  rw [m_bind, m_bind, call_at (S1 := S) (ds := [.int k.2.1, .int k.2.2]) rfl k2] <;> rfl
end
end Zd

namespace Zd
open PySem PySem.Spec PyProof.Rows L2 Zg
theorem FrS.setNew {i n : Nat} {S0 S : List Dat} {d : Dat} (h : FrS i S0 S) (hn : S0.length ≤ n) : FrS i S0 (S.set n d) := ⟨by rw [List.length_set]; exact h.1, fun j l ne => by
  rw [List.getElem?_set_ne (by omega)]
  exact h.2 j l ne⟩
theorem wp_app {o : Env → M Dat} {l : Env → M (List Dat)} {ρ : Env} {n : Nat} {S : List Dat} {xs : List Dat} {C : Flow → List Dat → Prop} (ho : o ρ S = .ok (.loc n) S) (h0 : S[n]? = some (.lst xs))
    (h : wp (l ρ) S fun ds S1 => ∃ x ys, ds = [x] ∧ S1[n]? = some (.lst ys) ∧ ys.length < 100000 ∧ C (.nx ρ) (S1.set n (.lst (ys ++ [x])))) : wp (sAppLo o l ρ) S C := by
  unfold sAppLo
  refine wp_bind (wp_of ho (wp_opt (a := n) rfl (wp_bind (wp_of (a := ()) (S' := S) ?_ (wp_bind (wp_mono h fun ds S1 z => ?_))))))
  · unfold needL isLst
    rw [h0]
  · obtain ⟨x, ys, rfl, e, ly, k⟩ := z
    refine wp_opt (a := x) rfl ?_
    refine wp_of (a := .nx ρ) (S' := S1.set n (.lst (ys ++ [x]))) ?_ k
    unfold appLo
    rw [e]
    dsimp only
    rw [decide_eq_true ly]
theorem Pot.newGet {i n k : Nat} {S : List Dat} (h : Pot i k S) (hn : S.length ≤ n) : n ≠ i := by
  obtain ⟨o, m, n', e, _⟩ := h
  have := (List.getElem?_eq_some_iff.mp e).1
  omega
theorem Rows.nil {P : Str → Dat → Prop} : Rows P [] [] := ⟨nofun, [], .slnil, rfl⟩
theorem Rows.skip {P : Str → Dat → Prop} {cs : List Str} {ds : List Dat} (c : Str) (h : Rows P cs ds) : Rows P (cs ++ [c]) ds := ⟨fun d hd => (h.at_ d hd).elim fun c' k => ⟨c', List.mem_append_left _ k.1, k.2⟩, h.fs.elim fun ss k => ⟨ss, k.1.trans (List.sublist_append_left _ _), k.2⟩⟩
theorem Rows.put {P : Str → Dat → Prop} {cs : List Str} {ds : List Dat} {c : Str} {d : Dat} (h : Rows P cs ds) (p : P c d) (e : fstD d = .str c) : Rows P (cs ++ [c]) (ds ++ [d]) := ⟨fun x hx => by
  rcases List.mem_append.mp hx with hx | hx
  · exact (h.at_ x hx).elim fun c' k => ⟨c', List.mem_append_left _ k.1, k.2⟩
  · rw [List.mem_singleton.mp hx]
    exact ⟨c, List.mem_append_right _ (List.mem_singleton.mpr rfl), p⟩, h.fs.elim fun ss k => ⟨ss ++ [c], k.1.append (List.Sublist.refl _), by rw [List.map_append, List.map_append, k.2, List.map_singleton, List.map_singleton, e]⟩⟩
def deeds9 : List (List Str) := [["show"], ["show"], ["match"], ["match", "show"], ["match", "order"], ["order"], [], ["match", "order", "show"], ["order", "show"]]
theorem deeds9_in : ∀ x, x ∈ deeds9 → x ∈ deedsL := by decide +kernel
abbrev readB : Env → M Flow := sIf (bTest (xOp dGt (xCall L__law_take (xCons (xVar 0) (xCons (xC (.int 5)) xNil))) (xC (.int 0)))) (sAppLo (xVar 6) (xCons (xTup (xCons (xVar 7) (xCons (xCall L__law_of (xCons (xVar 0) (xCons (xVar 4) xNil))) (xCons (xCall L__law_of (xCons (xVar 0) (xCons (xVar 5) xNil))) xNil)))) xNil)) sNx
section
variable {ℓ : Nat}
/-- the state of the loop over the columns -/
structure RdI (first : Bool) (cs : List Str) (k n : Nat) (e1 e2 e3 : Option Dat) (ss : List Str) (S0 : List Dat) (ds : List Dat) (ρ : Env) (S : List Dat) : Prop where
  sh : ∃ done rest acc z, cs = done ++ rest ∧ ds = rest.map .str ∧ ρ = [some (.loc ℓ), e1, e2, e3, some (lstS ss), some (.lst (deeds9.map tupS)), some (.loc n), z] ∧ Pot ℓ (k + 3 * rest.length) S ∧ S[n]? = some (.lst acc) ∧ Rows (RdRow first) done acc
  fr : FrS ℓ S0 S
theorem read_step {first : Bool} {cs : List Str} {k n : Nat} {e1 e2 e3 : Option Dat} {ss : List Str} {S0 : List Dat} (lc : cs.length ≤ 3) (hn : S0.length ≤ n) (hl : n ≠ ℓ) (s0 : 0 < ss.length) (s1 : ss.length ≤ 1000) (hs : ∀ x, x ∈ ss → x ∈ sidesL ∧ (first = true → x ∈ (["narrow", "either"] : List Str)))
    {d : Dat} {ds : List Dat} {ρ : Env} {S : List Dat} (I : RdI (ℓ := ℓ) first cs k n e1 e2 e3 ss S0 (d :: ds) ρ S) :
    ∃ ρ1, gN 7 ρ d = some ρ1 ∧ wp (readB ρ1) S fun f S' => match f with | .nx ρ2 => RdI (ℓ := ℓ) first cs k n e1 e2 e3 ss S0 ds ρ2 S' | _ => False := by
  obtain ⟨⟨done, rest, acc, z, e, ed, rfl, hp, ha, R⟩, hf⟩ := I
  match rest, ed with
  | c :: rest, ed =>
    injection ed with ed1 ed2
    subst ed1
    subst ed2
    have e' : cs = (done ++ [c]) ++ rest := by rw [e, List.append_assoc] <;> rfl
    have lr := R.len
    have ld : done.length ≤ 3 := by
      have := congrArg List.length e
      rw [List.length_append] at this
      omega
    have hp : Pot ℓ (k + 3 * rest.length + 1 + 1 + 1) S := hp.le (by rw [List.length_cons]; omega)
    refine ⟨_, rfl, wp_if (wp_test (wp_op (wp_call (wp_cons (wp_of (a := .loc ℓ) (S' := S) rfl (wp_cons (wp_of (a := .int 5) (S' := S) rfl (wp_nil ?_))))))))⟩
    refine w_take hp (by decide) (by decide) fun r S1 r0 r1 hp1 f1 => ?_
    refine wp_of (a := .int 0) (S' := S1) rfl (wp_of (a := .bl (decide (0 < r))) (S' := S1) rfl ⟨_, rfl, fun _ => ?_, fun _ => ?_⟩)
    · have g1 := f1.get ha hl
      refine wp_app (n := n) (xs := acc) rfl g1 (wp_cons (wp_tup (wp_cons (wp_of (a := .str c) (S' := S1) rfl (wp_cons (wp_call (wp_cons (wp_of (a := .loc ℓ) (S' := S1) rfl (wp_cons (wp_of (a := lstS ss) (S' := S1) rfl (wp_nil ?_))))))))))) 
      refine w_ofS ss hp1 s0 s1 fun side S2 hside hp2 f2 => ?_
      refine wp_cons (wp_call (wp_cons (wp_of (a := .loc ℓ) (S' := S2) rfl (wp_cons (wp_of (a := .lst (deeds9.map tupS)) (S' := S2) rfl (wp_nil ?_))))))
      refine w_of hp2 (by decide) (by decide) fun x S3 hx hp3 f3 => ?_
      obtain ⟨deeds, hd, rfl⟩ := List.mem_map.mp hx
      refine wp_nil ⟨(by decide : 3 ≤ 1000), wp_nil ⟨_, acc, rfl, f3.get (f2.get g1 hl) hl, by omega, ?_⟩⟩
      have g3 := f3.get (f2.get g1 hl) hl
      refine ⟨⟨done ++ [c], rest, acc ++ [.tup [.str c, .str side, tupS deeds]], _, e', rfl, rfl, (hp3.le (by omega)).other hl, set_get g3, R.put ⟨side, deeds, (hs side hside).1, (hs side hside).2, deeds9_in deeds hd, rfl⟩ rfl⟩, ?_⟩
      exact (((hf.trans f1).trans f2).trans f3).setNew hn
    · refine wp_of (a := .nx [some (.loc ℓ), e1, e2, e3, some (lstS ss), some (.lst (deeds9.map tupS)), some (.loc n), some (.str c)]) (S' := S1) rfl ?_
      exact ⟨⟨done ++ [c], rest, acc, _, e', rfl, rfl, hp1.le (by omega), f1.get ha hl, R.skip c⟩, hf.trans f1⟩
theorem w_reads {first : Bool} {cs : List Str} {sight : Str} {k : Nat} {S : List Dat} {C : Dat → List Dat → Prop} (lc : cs.length ≤ 3) (h : Pot ℓ (k + 9) S)
    (q : ∀ rs S', Rows (RdRow first) cs rs → Pot ℓ k S' → FrS ℓ S S' → C (.tup rs) S') : wp (L__law_reads [.loc ℓ, lstS cs, .bl first, .str sight]) S C := by
  refine wp_run (wp_seq (wp_asg (wp_of (a := lstS ["narrow", "narrow", "narrow", "either"]) (S' := S) rfl ?_)))
  refine ⟨_, rfl, ?_⟩
  -- the sides that are drawn from
  have sides : ∃ ss : List Str, sIf (bNot (bTest (xVar 2))) (sAsg (xOp dIxL (xLst (xCons (xLst (xCons (xC (.str "narrow")) (xCons (xC (.str "narrow")) (xCons (xC (.str "either")) (xCons (xC (.str "wide")) xNil))))) (xCons (xLst (xCons (xC (.str "wide")) (xCons (xC (.str "wide")) (xCons (xC (.str "either")) (xCons (xC (.str "narrow")) xNil))))) xNil))) (xCB dInt (xCons (xOp dEq (xVar 3) (xC (.str "wide"))) xNil))) (gN 4)) sNx
      [some (.loc ℓ), some (lstS cs), some (.bl first), some (.str sight), some (lstS ["narrow", "narrow", "narrow", "either"]), none, none, none] S =
      .ok (.nx [some (.loc ℓ), some (lstS cs), some (.bl first), some (.str sight), some (lstS ss), none, none, none]) S ∧ 0 < ss.length ∧ ss.length ≤ 1000 ∧ ∀ x, x ∈ ss → x ∈ sidesL ∧ (first = true → x ∈ (["narrow", "either"] : List Str)) := by
    cases first with
    | true => exact ⟨["narrow", "narrow", "narrow", "either"], rfl, by decide, by decide, by decide +kernel⟩
    | false =>
      have eq : xCB dInt (xCons (xOp dEq (xVar 3) (xC (.str "wide"))) xNil) [some (.loc ℓ), some (lstS cs), some (.bl false), some (.str sight), some (lstS ["narrow", "narrow", "narrow", "either"]), none, none, none] S = .ok (.int (if sight = "wide" then 1 else 0)) S := by
        refine cb_at (S1 := S) (ds := [.bl (decide (sight = "wide"))]) (one_at (op_at (x := .str sight) (y := .str "wide") rfl rfl eqS_at)) ?_
        by_cases c : sight = "wide"
        · rw [decide_eq_true c, if_pos c] <;> rfl
        · rw [decide_eq_false c, if_neg c] <;> rfl
      by_cases c : sight = "wide"
      · rw [if_pos c] at eq
        refine ⟨["wide", "wide", "either", "narrow"], ?_, by decide, by decide, by decide +kernel⟩
        rw [if_t (S' := S) rfl]
        exact asg_at (op_at (x := .lst [lstS ["narrow", "narrow", "either", "wide"], lstS ["wide", "wide", "either", "narrow"]]) (y := .int 1) rfl eq rfl) rfl
      · rw [if_neg c] at eq
        refine ⟨["narrow", "narrow", "either", "wide"], ?_, by decide, by decide, by decide +kernel⟩
        rw [if_t (S' := S) rfl]
        exact asg_at (op_at (x := .lst [lstS ["narrow", "narrow", "either", "wide"], lstS ["wide", "wide", "either", "narrow"]]) (y := .int 0) rfl eq rfl) rfl
  obtain ⟨ss, es, s0, s1, hs⟩ := sides
  refine wp_seq (wp_of es ?_)
  dsimp only
  refine wp_seq (wp_asg (wp_of (a := .lst ((deeds9.take 7).map tupS)) (S' := S) rfl ?_))
  refine ⟨_, rfl, ?_⟩
  dsimp only
  refine wp_seq (wp_asg (wp_of (a := .lst (deeds9.map tupS)) (S' := S) rfl ?_))
  refine ⟨_, rfl, ?_⟩
  dsimp only
  refine wp_seq (wp_asg (wp_of (a := .loc S.length) (S' := S ++ [.lst []]) rfl ?_))
  refine ⟨_, rfl, ?_⟩
  dsimp only
  refine wp_seq (wp_bind (wp_of (a := cs.map .str) (S' := S ++ [.lst []]) rfl ?_))
  have g0 : (S ++ [Dat.lst []])[S.length]? = some (.lst []) := by rw [List.getElem?_append_right (Nat.le_refl _), Nat.sub_self] <;> rfl
  refine wp_for (I := RdI (ℓ := ℓ) first cs k S.length (some (lstS cs)) (some (.bl first)) (some (.str sight)) ss S) (fun d ds ρ S1 I => ?_) (fun ρ S1 I => ?_) _ _ _ ⟨⟨[], cs, [], _, rfl, rfl, rfl, h.push.le (by omega), g0, .nil⟩, .push⟩
  · obtain ⟨ρ1, e1, w⟩ := read_step lc (Nat.le_refl _) (h.newGet (Nat.le_refl _)) s0 s1 hs I
    refine ⟨ρ1, e1, wp_mono w fun f S2 z => ?_⟩
    cases f with
    | nx ρ2 => exact z
    | ct ρ2 => exact z.elim
    | bk ρ2 => exact z.elim
    | rt d => exact z.elim
  · obtain ⟨⟨done, rest, acc, z, e, ed, rfl, hp, ha, R⟩, hf⟩ := I
    match rest, ed with
    | [], _ =>
      rw [List.append_nil] at e
      subst e
      refine wp_ret (wp_of (a := .tup acc) (S' := S1) ?_ (wp_pure (q acc S1 R (hp.le (by omega)) hf)))
      show (dTupleLo [.loc S.length] : M Dat) S1 = _
      unfold dTupleLo
      dsimp only
      rw [ha]
end
end Zd

namespace Zd
open PySem PySem.Spec PyProof.Rows L2 Zg
theorem Pot.same {i k : Nat} {S S' : List Dat} (h : Pot i k S) (e : S'[i]? = S[i]?) : Pot i k S' := by
  obtain ⟨o, m, n, a, r⟩ := h
  exact ⟨o, m, n, e.trans a, r⟩
def late1 (how : Str) : Nat := if isS (.str how) ["narrow first", "wide first"] = true then 1 else 0
def lftOk (v v' : Int) (n : Nat) : Prop := (n : Int) + max v' 0 ≤ max v 0
abbrev howC : Env → M Flow := sIf (bTest (xOp (dInS false) (xVar 7) (xTup (xCons (xC (.str "narrow first")) (xCons (xC (.str "wide first")) xNil))))) (sSeq (sAsg (xIf (bTest (xOp dGt (xOp dIxLo (xVar 4) (xC (.int 0))) (xC (.int 0)))) (xVar 7) (xC (.str "both"))) (gN 7))
    (sSetLo 4 (xC (.int 0)) (xOp dSub (xOp dIxLo (xVar 4) (xC (.int 0))) (xC (.int 1))))) sNx
section
variable {ℓ m : Nat}
theorem how_at {a b c d f g x y z : Option Dat} {how : Str} {v : Int} {S : List Dat} (hh : how ∈ howsL) (hm : S[m]? = some (.lst [.int v])) :
    ∃ (how' : Str) (v' : Int) (S' : List Dat), howC [a, b, c, d, some (.loc m), f, g, some (.str how), x, y, z] S = .ok (.nx [a, b, c, d, some (.loc m), f, g, some (.str how'), x, y, z]) S' ∧ S'[m]? = some (.lst [.int v']) ∧ (∀ j, j ≠ m → S'[j]? = S[j]?) ∧ S'.length = S.length ∧ how' ∈ howsL ∧ lftOk v v' (late1 how') ∧ (how = "narrow" → how' = "narrow") := by
  have i0 : dIxLo (.loc m) (.int 0) S = .ok (.int v) S := ixLo_of hm rfl
  have late : ∀ how : Str, how ∈ howsL → late1 how = 1 → (bTest (xOp (dInS false) (xVar 7) (xTup (xCons (xC (.str "narrow first")) (xCons (xC (.str "wide first")) xNil))))) [a, b, c, d, some (.loc m), f, g, some (.str how), x, y, z] S = .ok true S → how ≠ "narrow" →
      ∃ (how' : Str) (v' : Int) (S' : List Dat), howC [a, b, c, d, some (.loc m), f, g, some (.str how), x, y, z] S = .ok (.nx [a, b, c, d, some (.loc m), f, g, some (.str how'), x, y, z]) S' ∧ S'[m]? = some (.lst [.int v']) ∧ (∀ j, j ≠ m → S'[j]? = S[j]?) ∧ S'.length = S.length ∧ how' ∈ howsL ∧ lftOk v v' (late1 how') ∧ (how = "narrow" → how' = "narrow") := fun how hh l1 et nn => by
    have iv : (xOp dGt (xOp dIxLo (xVar 4) (xC (.int 0))) (xC (.int 0))) [a, b, c, d, some (.loc m), f, g, some (.str how), x, y, z] S = .ok (.bl (decide (0 < v))) S := op_at (x := .int v) (y := .int 0) (op_at (x := .loc m) (y := .int 0) rfl rfl i0) rfl rfl
    have set : ∀ how' : Str, (sSetLo 4 (xC (.int 0)) (xOp dSub (xOp dIxLo (xVar 4) (xC (.int 0))) (xC (.int 1)))) [a, b, c, d, some (.loc m), f, g, some (.str how'), x, y, z] S = .ok (.nx [a, b, c, d, some (.loc m), f, g, some (.str how'), x, y, z]) (S.set m (.lst [.int (v - 1)])) := fun how' => by
      unfold sSetLo
      rw [m_bind, op_at (S := S) (x := .int v) (y := .int 1) (d := .int (v - 1)) (op_at (x := .loc m) (y := .int 0) rfl rfl i0) rfl rfl]
      exact setLo_of (xs := [.int v]) (q := 0) hm rfl
    have pick : ∀ how' : Str, (xIf (bTest (xOp dGt (xOp dIxLo (xVar 4) (xC (.int 0))) (xC (.int 0)))) (xVar 7) (xC (.str "both"))) [a, b, c, d, some (.loc m), f, g, some (.str how), x, y, z] S = .ok (.str how') S →
        howC [a, b, c, d, some (.loc m), f, g, some (.str how), x, y, z] S = .ok (.nx [a, b, c, d, some (.loc m), f, g, some (.str how'), x, y, z]) (S.set m (.lst [.int (v - 1)])) := fun how' e => by
      refine (if_t et).trans ?_
      rw [seq_at (S' := S) (asg_at e rfl)]
      exact set how'
    have other : ∀ j, j ≠ m → (S.set m (.lst [.int (v - 1)]))[j]? = S[j]? := fun j n => List.getElem?_set_ne fun z => n z.symm
    by_cases hv : 0 < v
    · refine ⟨how, v - 1, _, pick how ?_, set_get hm, other, List.length_set, hh, ?_, fun h => absurd h nn⟩
      · unfold xIf
        rw [m_bind, test_at iv, decide_eq_true hv] <;> rfl
      · unfold lftOk
        rw [l1]
        omega
    · refine ⟨"both", v - 1, _, pick "both" ?_, set_get hm, other, List.length_set, by decide +kernel, ?_, fun h => absurd h nn⟩
      · unfold xIf
        rw [m_bind, test_at iv, decide_eq_false hv] <;> rfl
      · unfold lftOk
        rw [show late1 "both" = 0 by decide +kernel]
        omega
  have plain : ∀ how : Str, how ∈ howsL → late1 how = 0 → (bTest (xOp (dInS false) (xVar 7) (xTup (xCons (xC (.str "narrow first")) (xCons (xC (.str "wide first")) xNil))))) [a, b, c, d, some (.loc m), f, g, some (.str how), x, y, z] S = .ok false S →
      ∃ (how' : Str) (v' : Int) (S' : List Dat), howC [a, b, c, d, some (.loc m), f, g, some (.str how), x, y, z] S = .ok (.nx [a, b, c, d, some (.loc m), f, g, some (.str how'), x, y, z]) S' ∧ S'[m]? = some (.lst [.int v']) ∧ (∀ j, j ≠ m → S'[j]? = S[j]?) ∧ S'.length = S.length ∧ how' ∈ howsL ∧ lftOk v v' (late1 how') ∧ (how = "narrow" → how' = "narrow") := fun how hh l0 et => by
    refine ⟨how, v, S, ?_, hm, fun _ _ => rfl, rfl, hh, ?_, id⟩
    · exact (if_f et).trans rfl
    · unfold lftOk
      rw [l0]
      omega
  unfold howsL at hh
  simp only [List.mem_cons, List.not_mem_nil, or_false] at hh
  rcases hh with rfl | rfl | rfl | rfl | rfl
  · exact plain _ (by decide +kernel) (by decide +kernel) rfl
  · exact plain _ (by decide +kernel) (by decide +kernel) rfl
  · exact plain _ (by decide +kernel) (by decide +kernel) rfl
  · exact late _ (by decide +kernel) (by decide +kernel) rfl (by decide +kernel)
  · exact late _ (by decide +kernel) (by decide +kernel) rfl (by decide +kernel)
end
end Zd

namespace Zd
open PySem PySem.Spec PyProof.Rows L2 Zg
/-- all places but two stand as they stood -/
def FrM (i m : Nat) (S S' : List Dat) : Prop := S.length ≤ S'.length ∧ ∀ j, j < S.length → j ≠ i → j ≠ m → S'[j]? = S[j]?
theorem FrM.step {i m : Nat} {S0 S S' : List Dat} (h : FrM i m S0 S) (k : FrS i S S') : FrM i m S0 S' := ⟨Nat.le_trans h.1 k.1, fun j l n n' => (k.2 j (by have := h.1; omega) n).trans (h.2 j l n n')⟩
theorem FrM.chg {i m : Nat} {S0 S S' : List Dat} (h : FrM i m S0 S) (l : S'.length = S.length) (k : ∀ j, j ≠ m → S'[j]? = S[j]?) : FrM i m S0 S' := ⟨by rw [l]; exact h.1, fun j lj n n' => (k j n').trans (h.2 j lj n n')⟩
theorem FrM.setNew {i m n : Nat} {S0 S : List Dat} {d : Dat} (h : FrM i m S0 S) (hn : S0.length ≤ n) : FrM i m S0 (S.set n d) := ⟨by rw [List.length_set]; exact h.1, fun j l ne n' => by
  rw [List.getElem?_set_ne (by omega)]
  exact h.2 j l ne n'⟩
section
variable {S : List Dat}
theorem srcs_at {ρ : Env} {c : Str} (l : 10 < ρ.length) (hc : ρ[6]? = some (some (.str c))) : ∀ {rs : List Dat}, (∀ d, d ∈ rs → ∃ s x y, d = .tup [.str s, x, y]) → ∃ srcs : List Str,
    compD (gN 10) (bTest (xOp dNe (xOp dIxT (xVar 10) (xC (.int 0))) (xVar 6))) (xOp dIxT (xVar 10) (xC (.int 0))) ρ rs S = .ok (srcs.map .str) S ∧ srcs.length ≤ rs.length ∧ ∀ s, s ∈ srcs → (.str s : Dat) ∈ rs.map fstD ∧ s ≠ c
  | [], _ => ⟨[], rfl, Nat.le_refl _, nofun⟩
  | d :: rs, h => by
    obtain ⟨s, x, y, rfl⟩ := h d List.mem_cons_self
    obtain ⟨srcs, e, ll, hs⟩ := srcs_at l hc (rs := rs) fun d hd => h d (List.mem_cons_of_mem _ hd)
    have v10 : xVar 10 (ρ.set 10 (some (.tup [.str s, x, y]))) S = .ok (.tup [.str s, x, y]) S := by
      unfold xVar
      rw [List.getElem?_set_self l] <;> rfl
    have v6 : xVar 6 (ρ.set 10 (some (.tup [.str s, x, y]))) S = .ok (.str c) S := by
      unfold xVar
      rw [List.getElem?_set_ne (by decide), hc] <;> rfl
    have f0 : xOp dIxT (xVar 10) (xC (.int 0)) (ρ.set 10 (some (.tup [.str s, x, y]))) S = .ok (.str s) S := op_at v10 (y := .int 0) rfl rfl
    have t0 : bTest (xOp dNe (xOp dIxT (xVar 10) (xC (.int 0))) (xVar 6)) (ρ.set 10 (some (.tup [.str s, x, y]))) S = .ok (!decide (s = c)) S := test_at (op_at f0 v6 neS_at)
    by_cases q : s = c
    · refine ⟨srcs, ?_, Nat.le_succ_of_le ll, fun z hz => ⟨List.mem_cons_of_mem _ (hs z hz).1, (hs z hz).2⟩⟩
      unfold compD
      show ((bTest _ (ρ.set 10 (some (.tup [.str s, x, y]))) >>= fun b => if b = true then _ else _) : M (List Dat)) S = _
      rw [m_bind, t0, decide_eq_true q]
      exact e
    · refine ⟨s :: srcs, ?_, by rw [List.length_cons, List.length_cons]; omega, fun z hz => ?_⟩
      · unfold compD
        show ((bTest _ (ρ.set 10 (some (.tup [.str s, x, y]))) >>= fun b => if b = true then xOp dIxT (xVar 10) (xC (.int 0)) (ρ.set 10 (some (.tup [.str s, x, y]))) >>= fun x => compD _ _ _ ρ rs >>= fun xs => pure (x :: xs) else compD _ _ _ ρ rs) : M (List Dat)) S = _
        rw [m_bind, t0, decide_eq_false q]
        show ((xOp dIxT (xVar 10) (xC (.int 0)) (ρ.set 10 (some (.tup [.str s, x, y]))) >>= fun x => compD _ _ _ ρ rs >>= fun xs => pure (x :: xs)) : M (List Dat)) S = _
        rw [m_bind, f0]
        show ((compD _ _ _ ρ rs >>= fun xs => pure (.str s :: xs)) : M (List Dat)) S = _
        rw [m_bind, e] <;> rfl
      · rcases List.mem_cons.mp hz with hz | hz
        · subst hz
          exact ⟨List.mem_cons_self, q⟩
        · exact ⟨List.mem_cons_of_mem _ (hs z hz).1, (hs z hz).2⟩
end
end Zd

namespace Zd
open PySem PySem.Spec PyProof.Rows L2 Zg
def hows8 : List Str := ["narrow", "wide", "wide", "both", "both", "both", "narrow first", "wide first"]
theorem hows8_in : ∀ x, x ∈ hows8 → x ∈ howsL := by decide +kernel
def rules4 : List Str := ["refuse", "refuse", "cut", "empty"]
theorem rules4_in : ∀ x, x ∈ rules4 → x ∈ rulesL := by decide +kernel
def sr3 (srcs : List Str) : List Str := "" :: "" :: "" :: srcs
theorem sr3_len {srcs : List Str} : (sr3 srcs).length = srcs.length + 3 := rfl
abbrev writeB : Env → M Flow := sIf (bTest (xOp dGt (xCall L__law_take (xCons (xVar 0) (xCons (xC (.int 4)) xNil))) (xC (.int 0)))) (sSeq (sAsg (xC (.str "narrow")) (gN 7))
    (sSeq (sIf (bNot (bTest (xVar 3))) (sAsg (xCall L__law_of (xCons (xVar 0) (xCons (xLst (xCons (xC (.str "narrow")) (xCons (xC (.str "wide")) (xCons (xC (.str "wide")) (xCons (xC (.str "both")) (xCons (xC (.str "both")) (xCons (xC (.str "both")) (xCons (xC (.str "narrow first")) (xCons (xC (.str "wide first")) xNil))))))))) xNil))) (gN 7)) sNx)
    (sSeq howC
    (sSeq (sAsg (xLc (iTp (xVar 2)) (gN 10) (bTest (xOp dNe (xOp dIxT (xVar 10) (xC (.int 0))) (xVar 6))) (xOp dIxT (xVar 10) (xC (.int 0))) [10]) (gN 8))
    (sSeq (sAsg (xCall L__law_of (xCons (xVar 0) (xCons (xLst (xCons (xC (.str "refuse")) (xCons (xC (.str "refuse")) (xCons (xC (.str "cut")) (xCons (xC (.str "empty")) xNil))))) xNil))) (gN 9))
    (sAppLo (xVar 5) (xCons (xTup (xCons (xVar 6) (xCons (xVar 7) (xCons (xVar 9) (xCons (xCall L__law_of (xCons (xVar 0) (xCons (xOp dCatL (xLst (xCons (xC (.str "")) (xCons (xC (.str "")) (xCons (xC (.str "")) xNil)))) (xVar 8)) xNil))) (xCons (xCall L__law_of (xCons (xVar 0) (xCons (xLst (xCons (xC (.int 0)) (xCons (xC (.int 1)) (xCons (xC (.int 2)) (xCons (xC (.int 3)) (xCons (xC (.int 5)) (xCons (xC (.int 99)) xNil))))))) xNil))) xNil)))))) xNil))))))) sNx
section
variable {ℓ m : Nat}
/-- the state of the loop over the columns -/
structure WrI (first : Bool) (cs : List Str) (rs : List Dat) (k n : Nat) (e1 : Option Dat) (v0 : Int) (S0 : List Dat) (ds : List Dat) (ρ : Env) (S : List Dat) : Prop where
  sh : ∃ done rest acc v z1 z2 z3 z4 z5, cs = done ++ rest ∧ ds = rest.map .str ∧ ρ = [some (.loc ℓ), e1, some (.tup rs), some (.bl first), some (.loc m), some (.loc n), z1, z2, z3, z4, z5] ∧ Pot ℓ (k + 5 * rest.length) S ∧ S[n]? = some (.lst acc) ∧ S[m]? = some (.lst [.int v]) ∧
    Rows (WrRow first (firsts rs)) done acc ∧ lftOk v0 v (acc.filter lateR).length
  fr : FrM ℓ m S0 S
theorem write_step {first : Bool} {cs : List Str} {rs : List Dat} {k n : Nat} {e1 : Option Dat} {v0 : Int} {S0 : List Dat} {ss : List Str} (lc : cs.length ≤ 3) (lr : rs.length ≤ 3) (hr : ∀ d, d ∈ rs → ∃ s x y, d = .tup [.str s, x, y]) (ef : rs.map fstD = ss.map .str)
    (hn : S0.length ≤ n) (hl : n ≠ ℓ) (hm : n ≠ m) (hlm : m ≠ ℓ)
    {d : Dat} {ds : List Dat} {ρ : Env} {S : List Dat} (I : WrI (ℓ := ℓ) (m := m) first cs rs k n e1 v0 S0 (d :: ds) ρ S) :
    ∃ ρ1, gN 6 ρ d = some ρ1 ∧ wp (writeB ρ1) S fun f S' => match f with | .nx ρ2 => WrI (ℓ := ℓ) (m := m) first cs rs k n e1 v0 S0 ds ρ2 S' | _ => False := by
  obtain ⟨⟨done, rest, acc, v, z1, z2, z3, z4, z5, e, ed, rfl, hp, ha, hv, R, L⟩, hf⟩ := I
  match rest, ed with
  | c :: rest, ed =>
    injection ed with ed1 ed2
    subst ed1
    subst ed2
    have e' : cs = (done ++ [c]) ++ rest := by rw [e, List.append_assoc] <;> rfl
    have lR := R.len
    have ld : done.length ≤ 3 := by
      have := congrArg List.length e
      rw [List.length_append] at this
      omega
    have hp : Pot ℓ (k + 5 * rest.length + 1 + 1 + 1 + 1 + 1) S := hp.le (by rw [List.length_cons]; omega)
    refine ⟨_, rfl, wp_if (wp_test (wp_op (wp_call (wp_cons (wp_of (a := .loc ℓ) (S' := S) rfl (wp_cons (wp_of (a := .int 4) (S' := S) rfl (wp_nil ?_))))))))⟩
    refine w_take hp (by decide) (by decide) fun r S1 r0 r1 hp1 f1 => ?_
    refine wp_of (a := .int 0) (S' := S1) rfl (wp_of (a := .bl (decide (0 < r))) (S' := S1) rfl ⟨_, rfl, fun _ => ?_, fun _ => ?_⟩)
    rotate_left
    · refine wp_of (a := .nx [some (.loc ℓ), e1, some (.tup rs), some (.bl first), some (.loc m), some (.loc n), some (.str c), z2, z3, z4, z5]) (S' := S1) rfl ?_
      exact ⟨⟨done ++ [c], rest, acc, v, _, _, _, _, _, e', rfl, rfl, hp1.le (by omega), f1.get ha hl, f1.get hv hlm, R.skip c, L⟩, hf.step f1⟩
    refine wp_seq (wp_asg (wp_of (a := .str "narrow") (S' := S1) rfl ?_))
    refine ⟨_, rfl, ?_⟩
    dsimp only
    have ha1 := f1.get ha hl
    have hv1 := f1.get hv hlm
    have hf1 := hf.step f1
    clear ha hv hf f1 hp
    -- how
    have step2 : wp (sIf (bNot (bTest (xVar 3))) (sAsg (xCall L__law_of (xCons (xVar 0) (xCons (xLst (xCons (xC (.str "narrow")) (xCons (xC (.str "wide")) (xCons (xC (.str "wide")) (xCons (xC (.str "both")) (xCons (xC (.str "both")) (xCons (xC (.str "both")) (xCons (xC (.str "narrow first")) (xCons (xC (.str "wide first")) xNil))))))))) xNil))) (gN 7)) sNx
        [some (.loc ℓ), e1, some (.tup rs), some (.bl first), some (.loc m), some (.loc n), some (.str c), some (.str "narrow"), z3, z4, z5]) S1 fun f S2 => ∃ how : Str, f = .nx [some (.loc ℓ), e1, some (.tup rs), some (.bl first), some (.loc m), some (.loc n), some (.str c), some (.str how), z3, z4, z5] ∧
          how ∈ howsL ∧ (first = true → how = "narrow") ∧ Pot ℓ (k + 5 * rest.length + 1 + 1 + 1) S2 ∧ S2[n]? = some (.lst acc) ∧ S2[m]? = some (.lst [.int v]) ∧ FrM ℓ m S0 S2 := by
      cases first with
      | true => exact wp_of (a := .nx [some (.loc ℓ), e1, some (.tup rs), some (.bl true), some (.loc m), some (.loc n), some (.str c), some (.str "narrow"), z3, z4, z5]) (S' := S1) rfl ⟨"narrow", rfl, by decide +kernel, fun _ => rfl, hp1.le (by omega), ha1, hv1, hf1⟩
      | false =>
        refine wp_if (wp_of (a := true) (S' := S1) rfl ⟨fun _ => ?_, fun z => nomatch z⟩)
        refine wp_asg (wp_call (wp_cons (wp_of (a := .loc ℓ) (S' := S1) rfl (wp_cons (wp_of (a := lstS hows8) (S' := S1) rfl (wp_nil ?_))))))
        refine w_ofS hows8 hp1 (by decide) (by decide) fun how S2 hh hp2 f2 => ?_
        exact ⟨_, rfl, how, rfl, hows8_in how hh, nofun, hp2, f2.get ha1 hl, f2.get hv1 hlm, hf1.step f2⟩
    refine wp_seq (wp_mono step2 fun f S2 z => ?_)
    obtain ⟨how, rfl, hh, hfst, hp2, ha2, hv2, hf2⟩ := z
    dsimp only
    clear step2 hp1 ha1 hv1 hf1
    obtain ⟨how', v', S3, eh, hv3, same, len3, hh', lft, keep⟩ := how_at (m := m) (a := some (.loc ℓ)) (b := e1) (c := some (.tup rs)) (d := some (.bl first)) (f := some (.loc n)) (g := some (.str c)) (x := z3) (y := z4) (z := z5) hh hv2
    refine wp_seq (wp_of eh ?_)
    dsimp only
    have hp3 : Pot ℓ (k + 5 * rest.length + 1 + 1 + 1) S3 := hp2.same (same ℓ hlm.symm)
    have ha3 : S3[n]? = some (.lst acc) := (same n hm).trans ha2
    have hf3 := hf2.chg len3 same
    clear hp2 ha2 hv2 hf2 eh
    -- the sources
    obtain ⟨srcs, es, ls, hs⟩ := srcs_at (S := S3) (ρ := [some (.loc ℓ), e1, some (.tup rs), some (.bl first), some (.loc m), some (.loc n), some (.str c), some (.str how'), z3, z4, none]) (c := c) (show 10 < 11 by decide) rfl hr
    have esl : xLc (iTp (xVar 2)) (gN 10) (bTest (xOp dNe (xOp dIxT (xVar 10) (xC (.int 0))) (xVar 6))) (xOp dIxT (xVar 10) (xC (.int 0))) [10] [some (.loc ℓ), e1, some (.tup rs), some (.bl first), some (.loc m), some (.loc n), some (.str c), some (.str how'), z3, z4, z5] S3 = .ok (lstS srcs) S3 := by
      unfold xLc
      rw [m_bind, show iTp (xVar 2) [some (.loc ℓ), e1, some (.tup rs), some (.bl first), some (.loc m), some (.loc n), some (.str c), some (.str how'), z3, z4, z5] S3 = .ok rs S3 from rfl]
      show ((M.need (decide (rs.length ≤ 100000)) >>= fun _ => compD _ _ _ [some (.loc ℓ), e1, some (.tup rs), some (.bl first), some (.loc m), some (.loc n), some (.str c), some (.str how'), z3, z4, none] rs >>= fun es => pure (.lst es)) : M Dat) S3 = _
      rw [decide_eq_true (show rs.length ≤ 100000 by omega)]
      show ((compD _ _ _ [some (.loc ℓ), e1, some (.tup rs), some (.bl first), some (.loc m), some (.loc n), some (.str c), some (.str how'), z3, z4, none] rs >>= fun es => pure (.lst es)) : M Dat) S3 = _
      rw [m_bind, es] <;> rfl
    refine wp_seq (wp_asg (wp_of esl ?_))
    refine ⟨_, rfl, ?_⟩
    dsimp only
    refine wp_seq (wp_asg (wp_call (wp_cons (wp_of (a := .loc ℓ) (S' := S3) rfl (wp_cons (wp_of (a := lstS rules4) (S' := S3) rfl (wp_nil ?_)))))))
    refine w_ofS rules4 hp3 (by decide) (by decide) fun rule S4 hrule hp4 f4 => ?_
    refine ⟨_, rfl, ?_⟩
    dsimp only
    have ha4 := f4.get ha3 hl
    refine wp_app (n := n) (xs := acc) rfl ha4 (wp_cons (wp_tup (wp_cons (wp_of (a := .str c) (S' := S4) rfl (wp_cons (wp_of (a := .str how') (S' := S4) rfl (wp_cons (wp_of (a := .str rule) (S' := S4) rfl (wp_cons (wp_call (wp_cons (wp_of (a := .loc ℓ) (S' := S4) rfl (wp_cons ?_)))))))))))))
    refine wp_of (a := lstS (sr3 srcs)) (S' := S4) ?_ (wp_nil ?_)
    · refine op_at (x := lstS ["", "", ""]) (y := lstS srcs) rfl rfl ?_
      show ((M.need (decide (3 + (srcs.map Dat.str).length ≤ 100000)) >>= fun _ => pure (.lst _)) : M Dat) S4 = _
      rw [decide_eq_true (show 3 + (srcs.map Dat.str).length ≤ 100000 by rw [List.length_map]; omega)] <;> rfl
    refine w_ofS (sr3 srcs) hp4 (by rw [sr3_len]; omega) (by rw [sr3_len]; omega) fun src S5 hsrc hp5 f5 => ?_
    refine wp_cons (wp_call (wp_cons (wp_of (a := .loc ℓ) (S' := S5) rfl (wp_cons (wp_of (a := .lst (pacesL.map .int)) (S' := S5) rfl (wp_nil ?_))))))
    refine w_ofI pacesL hp5 (by decide) (by decide) fun pace S6 hpace hp6 f6 => ?_
    have g6 := f6.get (f5.get ha4 hl) hl
    refine wp_nil ⟨(by decide : 5 ≤ 1000), wp_nil ⟨_, acc, rfl, g6, by omega, ?_⟩⟩
    have lastR : WrRow first (firsts rs) c (.tup [.str c, .str how', .str rule, .str src, .int pace]) := by
      refine ⟨how', rule, src, pace, hh', fun z => keep (hfst z), rules4_in rule hrule, hpace, fun ns => ?_, rfl⟩
      have hs1 : src ∈ srcs := by
        rcases List.mem_cons.mp hsrc with z | z
        · exact absurd z ns
        · rcases List.mem_cons.mp z with z | z
          · exact absurd z ns
          · rcases List.mem_cons.mp z with z | z
            · exact absurd z ns
            · exact z
      · obtain ⟨k1, k2⟩ := hs src hs1
        rw [ef] at k1
        obtain ⟨s', ms, es'⟩ := List.mem_map.mp k1
        injection es' with es'
        subst es'
        rw [firsts_of ef]
        exact ⟨ms, k2⟩
    refine ⟨⟨done ++ [c], rest, acc ++ [.tup [.str c, .str how', .str rule, .str src, .int pace]], v', _, _, _, _, _, e', rfl, rfl, (hp6.le (by omega)).other hl, set_get g6, ?_, R.put lastR rfl, ?_⟩, ?_⟩
    · rw [List.getElem?_set_ne hm]
      exact f6.get (f5.get (f4.get hv3 hlm) hlm) hlm
    · rw [List.filter_append, List.length_append]
      have e1 : (List.filter lateR [.tup [.str c, .str how', .str rule, .str src, .int pace]]).length = late1 how' := by
        unfold late1
        rw [List.filter_cons]
        show (if isS (.str how') ["narrow first", "wide first"] = true then _ else _ : List Dat).length = _
        by_cases q : isS (.str how') ["narrow first", "wide first"] = true
        · rw [if_pos q, if_pos q] <;> rfl
        · rw [if_neg q, if_neg q] <;> rfl
      rw [e1]
      unfold lftOk at L lft ⊢
      omega
    · exact (((hf3.step f4).step f5).step f6).setNew hn
end
end Zd

namespace Zd
open PySem PySem.Spec PyProof.Rows L2 Zg
section
variable {ℓ m : Nat}
theorem FrM.refl {S : List Dat} : FrM ℓ m S S := ⟨Nat.le_refl _, fun _ _ _ _ => rfl⟩
theorem FrM.trans {S S1 S2 : List Dat} (h : FrM ℓ m S S1) (k : FrM ℓ m S1 S2) : FrM ℓ m S S2 := ⟨Nat.le_trans h.1 k.1, fun j l n n' => (k.2 j (by have := h.1; omega) n n').trans (h.2 j l n n')⟩
theorem FrM.push {S : List Dat} {d : Dat} : FrM ℓ m S (S ++ [d]) := ⟨by rw [List.length_append]; omega, fun j l _ _ => List.getElem?_append_left l⟩
theorem FrM.get {S S' : List Dat} {j : Nat} {d : Dat} (h : FrM ℓ m S S') (e : S[j]? = some d) (n : j ≠ ℓ) (n' : j ≠ m) : S'[j]? = some d := (h.2 j (List.getElem?_eq_some_iff.mp e).1 n n').trans e
theorem FrS.toM {S S' : List Dat} (h : FrS ℓ S S') : FrM ℓ m S S' := FrM.refl.step h
theorem w_writes {first : Bool} {cs : List Str} {rs : List Dat} {k : Nat} {S : List Dat} {v : Int} {C : Dat → List Dat → Prop} (lc : cs.length ≤ 3) (hR : Rows (RdRow first) cs rs) (h : Pot ℓ (k + 15) S) (hm : S[m]? = some (.lst [.int v])) (hlm : m ≠ ℓ)
    (q : ∀ ws v' S', Rows (WrRow first (firsts rs)) cs ws → lftOk v v' (ws.filter lateR).length → S'[m]? = some (.lst [.int v']) → Pot ℓ k S' → FrM ℓ m S S' → C (.tup ws) S') :
    wp (L__law_writes [.loc ℓ, lstS cs, .tup rs, .bl first, .loc m]) S C := by
  have lm := (List.getElem?_eq_some_iff.mp hm).1
  have lr := hR.len
  obtain ⟨ss, sub, ef⟩ := hR.fs
  refine wp_run (wp_seq (wp_asg (wp_of (a := .loc S.length) (S' := S ++ [.lst []]) rfl ?_)))
  refine ⟨_, rfl, ?_⟩
  dsimp only
  refine wp_seq (wp_bind (wp_of (a := cs.map .str) (S' := S ++ [.lst []]) rfl ?_))
  have g0 : (S ++ [Dat.lst []])[S.length]? = some (.lst []) := by rw [List.getElem?_append_right (Nat.le_refl _), Nat.sub_self] <;> rfl
  have gm : (S ++ [Dat.lst []])[m]? = some (.lst [.int v]) := by rw [List.getElem?_append_left lm]; exact hm
  refine wp_for (I := WrI (ℓ := ℓ) (m := m) first cs rs k S.length (some (lstS cs)) v S) (fun d ds ρ S1 I => ?_) (fun ρ S1 I => ?_) _ _ _ ⟨⟨[], cs, [], v, _, _, _, _, _, rfl, rfl, rfl, h.push.le (by omega), g0, gm, .nil, ?_⟩, .push⟩
  · obtain ⟨ρ1, e1, w⟩ := write_step lc (by omega) (fun d hd => by
      obtain ⟨c, _, side, deeds, _, _, _, rfl⟩ := hR.at_ d hd
      exact ⟨_, _, _, rfl⟩) ef (Nat.le_refl _) (h.newGet (Nat.le_refl _)) (by omega) hlm I
    refine ⟨ρ1, e1, wp_mono w fun f S2 z => ?_⟩
    cases f with
    | nx ρ2 => exact z
    | ct ρ2 => exact z.elim
    | bk ρ2 => exact z.elim
    | rt d => exact z.elim
  · obtain ⟨⟨done, rest, acc, v', z1, z2, z3, z4, z5, e, ed, rfl, hp, ha, hv, R, L⟩, hf⟩ := I
    match rest, ed with
    | [], _ =>
      rw [List.append_nil] at e
      subst e
      refine wp_ret (wp_of (a := .tup acc) (S' := S1) ?_ (wp_pure (q acc v' S1 R L hv (hp.le (by omega)) hf)))
      show (dTupleLo [.loc S.length] : M Dat) S1 = _
      unfold dTupleLo
      dsimp only
      rw [ha]
  · unfold lftOk
    show (0 : Int) + max v 0 ≤ max v 0
    omega
/-! ### the editions -/
theorem range_at {j : Int} {ρ : Env} {S : List Dat} {a : Env → M (List Dat)} {S' : List Dat} (h : a ρ S = .ok [.int j] S') (hj : j ∈ ([1, 2, 3] : List Int)) : iRg1 a ρ S = .ok (intsD 0 j.toNat) S' := by
  simp only [List.mem_cons, List.not_mem_nil, or_false] at hj
  unfold iRg1
  rcases hj with rfl | rfl | rfl <;> (rw [m_bind, h] <;> rfl)
abbrev edB : Env → M Flow := sSeq (sAsg (xCall L__law_of (xCons (xVar 0) (xCons (xIf (bTest (xOp dEq (xVar 4) (xC (.int 0)))) (xLst (xCons (xC (.str "narrow")) (xCons (xC (.str "narrow")) (xCons (xC (.str "narrow")) (xCons (xC (.str "wide")) xNil))))) (xLst (xCons (xC (.str "narrow")) (xCons (xC (.str "wide")) (xCons (xC (.str "wide")) xNil))))) xNil))) (gN 5))
    (sSeq (sAsg (xCall L__law_reads (xCons (xVar 0) (xCons (xVar 1) (xCons (xOp dEq (xVar 4) (xC (.int 0))) (xCons (xVar 5) xNil))))) (gN 6))
    (sAppLo (xVar 3) (xCons (xTup (xCons (xVar 5) (xCons (xVar 6) (xCons (xCall L__law_writes (xCons (xVar 0) (xCons (xVar 1) (xCons (xVar 6) (xCons (xOp dEq (xVar 4) (xC (.int 0))) (xCons (xVar 2) xNil)))))) xNil)))) xNil)))
theorem eqI_at {i j : Int} {S : List Dat} : dEq (.int i) (.int j) S = .ok (.bl (decide (i = j))) S := by
  show Out.ok (Dat.bl (decide (V.int i = V.int j))) S = _
  have e : decide (V.int i = V.int j) = decide (i = j) := by
    by_cases h : i = j
    · rw [decide_eq_true h, decide_eq_true (congrArg V.int h)]
    · rw [decide_eq_false h, decide_eq_false fun z => h (V.int.inj z)]
  rw [e]
/-- the editions so far -/
structure EdsOk (cs : List Str) (acc : List Dat) : Prop where
  all : ∀ e, e ∈ acc → ∃ first, EdnD first cs e
  one : ∀ e r, acc = e :: r → EdnD true cs e
theorem ed_turn {cs : List Str} {i : Nat} {k n : Nat} {v0 v : Int} {S : List Dat} {acc : List Dat} {z1 z2 : Option Dat} (lc : cs.length ≤ 3) (hl : n ≠ ℓ) (hm : n ≠ m) (hlm : m ≠ ℓ) (hp : Pot ℓ (k + 25) S) (ha : S[n]? = some (.lst acc)) (hv : S[m]? = some (.lst [.int v]))
    (hi : acc.length = i) (li : i < 3) (A : EdsOk cs acc) (L : lftOk v0 v ((acc.map cntE).sum)) :
    wp (edB [some (.loc ℓ), some (lstS cs), some (.loc m), some (.loc n), some (.int (i : Int)), z1, z2]) S fun f S' => ∃ d z1 z2 v' S2, f = .nx [some (.loc ℓ), some (lstS cs), some (.loc m), some (.loc n), some (.int (i : Int)), z1, z2] ∧ S' = S2.set n (.lst (acc ++ [d])) ∧ S2[n]? = some (.lst acc) ∧ S2[m]? = some (.lst [.int v']) ∧ Pot ℓ k S2 ∧ FrM ℓ m S S2 ∧
      EdsOk cs (acc ++ [d]) ∧ lftOk v0 v' (((acc ++ [d]).map cntE).sum) := by
  have t0 : ∀ (z1 z2 : Option Dat) (S : List Dat), xOp dEq (xVar 4) (xC (.int 0)) [some (.loc ℓ), some (lstS cs), some (.loc m), some (.loc n), some (.int (i : Int)), z1, z2] S = .ok (.bl (decide ((i : Int) = 0))) S := fun z1 z2 S => op_at (x := .int i) (y := .int 0) rfl rfl eqI_at
  have sl : ∃ sl : List Str, xIf (bTest (xOp dEq (xVar 4) (xC (.int 0)))) (xLst (xCons (xC (.str "narrow")) (xCons (xC (.str "narrow")) (xCons (xC (.str "narrow")) (xCons (xC (.str "wide")) xNil))))) (xLst (xCons (xC (.str "narrow")) (xCons (xC (.str "wide")) (xCons (xC (.str "wide")) xNil)))) [some (.loc ℓ), some (lstS cs), some (.loc m), some (.loc n), some (.int (i : Int)), z1, z2] S = .ok (lstS sl) S ∧
      0 < sl.length ∧ sl.length ≤ 1000 ∧ ∀ x, x ∈ sl → x ∈ (["narrow", "wide"] : List Str) := by
    by_cases c : (i : Int) = 0
    · refine ⟨["narrow", "narrow", "narrow", "wide"], ?_, by decide, by decide, by decide +kernel⟩
      unfold xIf
      rw [m_bind, test_at (t0 _ _ _), decide_eq_true c] <;> rfl
    · refine ⟨["narrow", "wide", "wide"], ?_, by decide, by decide, by decide +kernel⟩
      unfold xIf
      rw [m_bind, test_at (t0 _ _ _), decide_eq_false c] <;> rfl
  obtain ⟨sl, es, s0, s1, hs⟩ := sl
  refine wp_seq (wp_asg (wp_call (wp_cons (wp_of (a := .loc ℓ) (S' := S) rfl (wp_cons (wp_of es (wp_nil ?_)))))))
  have hp : Pot ℓ (k + 15 + 9 + 1) S := hp
  refine w_ofS sl hp s0 s1 fun sight S1 hsight hp1 f1 => ?_
  refine ⟨_, rfl, ?_⟩
  dsimp only
  refine wp_seq (wp_asg (wp_call (wp_cons (wp_of (a := .loc ℓ) (S' := S1) rfl (wp_cons (wp_of (a := lstS cs) (S' := S1) rfl (wp_cons (wp_of (t0 _ _ _) (wp_cons (wp_of (a := .str sight) (S' := S1) rfl (wp_nil ?_)))))))))))
  refine w_reads lc hp1 fun rs S2 hR hp2 f2 => ?_
  refine ⟨_, rfl, ?_⟩
  dsimp only
  have ha2 := f2.get (f1.get ha hl) hl
  have hv2 := f2.get (f1.get hv hlm) hlm
  refine wp_app (n := n) (xs := acc) rfl ha2 (wp_cons (wp_tup (wp_cons (wp_of (a := .str sight) (S' := S2) rfl (wp_cons (wp_of (a := .tup rs) (S' := S2) rfl (wp_cons (wp_call (wp_cons (wp_of (a := .loc ℓ) (S' := S2) rfl (wp_cons (wp_of (a := lstS cs) (S' := S2) rfl (wp_cons (wp_of (a := .tup rs) (S' := S2) rfl (wp_cons (wp_of (t0 _ _ _) (wp_cons (wp_of (a := .loc m) (S' := S2) rfl (wp_nil ?_)))))))))))))))))))
  refine w_writes lc hR hp2 hv2 hlm fun ws v' S3 hW L3 hv3 hp3 f3 => ?_
  have ha3 := f3.get ha2 hl hm
  have E : EdnD (decide ((i : Int) = 0)) cs (.tup [.str sight, .tup rs, .tup ws]) := ⟨sight, rs, ws, rfl, hs sight hsight, hR, hW⟩
  refine wp_nil ⟨(by decide : 3 ≤ 1000), wp_nil ⟨_, acc, rfl, ha3, by omega, ?_⟩⟩
  refine ⟨.tup [.str sight, .tup rs, .tup ws], _, _, v', S3, rfl, rfl, ha3, hv3, hp3, (f1.toM.step f2).trans f3, ⟨fun e he => ?_, fun e r he => ?_⟩, ?_⟩
  · rcases List.mem_append.mp he with he | he
    · exact A.all e he
    · rw [List.mem_singleton.mp he]
      exact ⟨_, E⟩
  · cases acc with
    | nil =>
      have i0 : i = 0 := hi.symm
      injection he with he _
      subst he
      rw [i0] at E
      exact E
    | cons a as =>
      injection he with he _
      subst he
      exact A.one a as rfl
  · rw [List.map_append, List.sum_append]
    show lftOk v0 v' ((acc.map cntE).sum + ((ws.filter lateR).length + 0))
    unfold lftOk at L L3 ⊢
    omega
end
end Zd

namespace Zd
open PySem PySem.Spec PyProof.Rows L2 Zg
def dsOf : Nat → Nat → List Dat
  | _, 0 => []
  | i, r + 1 => .int (i : Int) :: dsOf (i + 1) r
theorem intsD_dsOf {j : Int} (hj : j ∈ ([1, 2, 3] : List Int)) : intsD 0 j.toNat = dsOf 0 j.toNat ∧ 1 ≤ j.toNat ∧ j.toNat ≤ 3 := by
  simp only [List.mem_cons, List.not_mem_nil, or_false] at hj
  rcases hj with rfl | rfl | rfl
  · exact ⟨rfl, by decide, by decide⟩
  · exact ⟨rfl, by decide, by decide⟩
  · exact ⟨rfl, by decide, by decide⟩
section
variable {ℓ m : Nat}
structure EdI (cs : List Str) (J k n : Nat) (v0 : Int) (S0 : List Dat) (ds : List Dat) (ρ : Env) (S : List Dat) : Prop where
  sh : ∃ i r acc v z4 z5 z6, ds = dsOf i r ∧ i + r = J ∧ ρ = [some (.loc ℓ), some (lstS cs), some (.loc m), some (.loc n), z4, z5, z6] ∧ Pot ℓ (k + 25 * r) S ∧ S[n]? = some (.lst acc) ∧ S[m]? = some (.lst [.int v]) ∧ acc.length = i ∧ EdsOk cs acc ∧ lftOk v0 v ((acc.map cntE).sum)
  fr : FrM ℓ m S0 S
theorem w_editions {cs : List Str} {k : Nat} {S : List Dat} {v : Int} {C : Dat → List Dat → Prop} (lc : cs.length ≤ 3) (h : Pot ℓ (k + 76) S) (hm : S[m]? = some (.lst [.int v])) (hlm : m ≠ ℓ)
    (q : ∀ eds v' S', EdsOk cs eds → 1 ≤ eds.length → eds.length ≤ 3 → lftOk v v' ((eds.map cntE).sum) → S'[m]? = some (.lst [.int v']) → Pot ℓ k S' → FrM ℓ m S S' → C (.tup eds) S') :
    wp (L__law_editions [.loc ℓ, lstS cs, .loc m]) S C := by
  have lm := (List.getElem?_eq_some_iff.mp hm).1
  refine wp_run (wp_seq (wp_asg (wp_of (a := .loc S.length) (S' := S ++ [.lst []]) rfl ?_)))
  refine ⟨_, rfl, ?_⟩
  dsimp only
  have g0 : (S ++ [Dat.lst []])[S.length]? = some (.lst []) := by rw [List.getElem?_append_right (Nat.le_refl _), Nat.sub_self] <;> rfl
  have gm : (S ++ [Dat.lst []])[m]? = some (.lst [.int v]) := by rw [List.getElem?_append_left lm]; exact hm
  have hn := h.newGet (Nat.le_refl S.length)
  have hp : Pot ℓ (k + 75 + 1) (S ++ [Dat.lst []]) := h.push
  refine wp_seq (wp_bind ?_)
  refine wp_bind (wp_cons (wp_call (wp_cons (wp_of (a := .loc ℓ) (S' := S ++ [.lst []]) rfl (wp_cons (wp_of (a := .lst (([1, 2, 2, 3] : List Int).map .int)) (S' := S ++ [.lst []]) rfl (wp_nil ?_)))))))
  refine w_ofI [1, 2, 2, 3] hp (by decide) (by decide) fun j S1 hj hp1 f1 => ?_
  refine wp_nil ?_
  have hj2 : j ∈ ([1, 2, 3] : List Int) := by
    simp only [List.mem_cons, List.not_mem_nil, or_false] at hj ⊢
    omega
  obtain ⟨ej, j1, j3⟩ := intsD_dsOf hj2
  refine wp_of (a := dsOf 0 j.toNat) (S' := S1) ?_ ?_
  · rw [← ej]
    simp only [List.mem_cons, List.not_mem_nil, or_false] at hj2
    rcases hj2 with rfl | rfl | rfl <;> rfl
  refine wp_for (I := EdI (ℓ := ℓ) (m := m) cs j.toNat k S.length v S) (fun d ds ρ S2 I => ?_) (fun ρ S2 I => ?_) _ _ _ ⟨⟨0, j.toNat, [], v, _, _, _, rfl, by omega, rfl, hp1.le (by omega), f1.get g0 hn, f1.get gm hlm, rfl, ⟨nofun, nofun⟩, ?_⟩, FrM.push.step f1⟩
  · obtain ⟨⟨i, r, acc, v', z4, z5, z6, ed, ir, rfl, hp2, ha, hv, li, A, L⟩, hf⟩ := I
    match r, ed with
    | r + 1, ed =>
      injection ed with ed1 ed2
      subst ed1
      subst ed2
      refine ⟨_, rfl, ?_⟩
      have t := ed_turn (z1 := z5) (z2 := z6) (k := k + 25 * r) lc hn (by omega) hlm (hp2.le (by omega)) ha hv li (by omega) A L
      refine wp_mono t fun f S3 z => ?_
      obtain ⟨d, y1, y2, v2, S4, rfl, rfl, ha4, hv4, hp4, f4, A4, L4⟩ := z
      refine ⟨⟨i + 1, r, acc ++ [d], v2, _, _, _, rfl, by omega, rfl, hp4.other hn, set_get ha4, ?_, by rw [List.length_append, li] <;> rfl, A4, L4⟩, (hf.trans f4).setNew (Nat.le_refl _)⟩
      rw [List.getElem?_set_ne (by omega)]
      exact hv4
  · obtain ⟨⟨i, r, acc, v', z4, z5, z6, ed, ir, rfl, hp2, ha, hv, li, A, L⟩, hf⟩ := I
    match r, ed with
    | 0, _ =>
      refine wp_ret (wp_of (a := .tup acc) (S' := S2) ?_ (wp_pure (q acc v' S2 A (by omega) (by omega) L hv (hp2.le (by omega)) hf)))
      show (dTupleLo [.loc S.length] : M Dat) S2 = _
      unfold dTupleLo
      dsimp only
      rw [ha]
  · unfold lftOk
    show (0 : Int) + max v 0 ≤ max v 0
    omega
end
end Zd

namespace Zd
open PySem PySem.Spec PyProof.Rows L2 Zg
def kinds6 : List (Ki × Ki) := [((0, 15), (0, 99)), ((0, 255), (0, 65535)), ((-8, 20), (-8, 400)), ((-128, 127), (-32768, 32767)), ((0, 15), (0, 99)), ((0, 999), (0, 99999999999999999))]
theorem kinds6_in : ∀ x, x ∈ kinds6 → x ∈ kindsL := by decide +kernel
def kP (q : Ki) : Dat := .tup [.int q.1, .int q.2]
def kD (q : Ki × Ki) : Dat := .tup [kP q.1, kP q.2]
def many6 : List Int := [1, 1, 1, 2, 2, 3]
theorem many6_in : ∀ x, x ∈ many6 → x ∈ ([1, 2, 3] : List Int) := by decide +kernel
abbrev wlT : Env → M Dat := xCall L__law_some_names (xCons (xVar 0) (xCons (xCall L__law_of (xCons (xVar 0) (xCons (xLst (xCons (xC (.int 1)) (xCons (xC (.int 1)) (xCons (xC (.int 1)) (xCons (xC (.int 2)) (xCons (xC (.int 2)) (xCons (xC (.int 3)) xNil))))))) xNil))) xNil))
section
variable {ℓ : Nat}
theorem w_wl {ρ : Env} {k : Nat} {S : List Dat} {C : Dat → List Dat → Prop} (e0 : ρ[0]? = some (some (.loc ℓ))) (h : Pot ℓ (k + 2) S) (q : ∀ ss S', ss ∈ nsets → Pot ℓ k S' → FrS ℓ S S' → C (lstS ss) S') : wp (wlT ρ) S C := by
  have v0 : ∀ S, xVar 0 ρ S = .ok (.loc ℓ) S := fun S => by
    unfold xVar
    rw [e0] <;> rfl
  have h : Pot ℓ (k + 1 + 1) S := h
  refine wp_call (wp_cons (wp_of (v0 S) (wp_cons (wp_call (wp_cons (wp_of (v0 S) (wp_cons (wp_of (a := .lst (many6.map .int)) (S' := S) rfl (wp_nil ?_)))))))))
  refine w_ofI many6 h (by decide) (by decide) fun j S1 hj hp1 f1 => ?_
  refine wp_nil ?_
  exact w_names hp1 (many6_in j hj) fun ss S2 hs hp2 f2 => q ss S2 hs hp2 (f1.trans f2)
theorem pairs_cons {S : List Dat} {ρ : Env} {a b : Env → M Dat} {x y : Dat} {r : List ((Env → M Dat) × (Env → M Dat))} {l : List (Dat × Dat)} (ha : a ρ S = .ok x S) (hb : b ρ S = .ok y S) (hr : xPairs r ρ S = .ok l S) : xPairs ((a, b) :: r) ρ S = .ok ((x, y) :: l) S := by
  unfold xPairs
  rw [m_bind, ha]
  show ((b ρ >>= fun y => xPairs r ρ >>= fun l => pure ((x, y) :: l)) : M _) S = _
  rw [m_bind, hb]
  show ((xPairs r ρ >>= fun l => pure ((x, y) :: l)) : M _) S = _
  rw [m_bind, hr] <;> rfl
/-- the state of the loop over the programs' names -/
structure PgI (cs : List Str) (k m n : Nat) (e1 e2 e3 : Option Dat) (S0 : List Dat) (nm : List Str) (ds : List Dat) (ρ : Env) (S : List Dat) : Prop where
  sh : ∃ done rest acc v z7, nm = done ++ rest ∧ ds = rest.map .str ∧ ρ = [some (.loc ℓ), e1, e2, e3, some (lstS cs), some (.loc m), some (.loc n), z7] ∧ Pot ℓ (k + 76 * rest.length) S ∧ S[n]? = some (.lst acc) ∧ S[m]? = some (.lst [.int v]) ∧
    (∀ p, p ∈ acc → PgmD cs p) ∧ acc.map fstD = done.map .str ∧ lftOk 2 v ((acc.map cntP).sum)
  fr : FrM ℓ m S0 S
theorem FrM.toS {m : Nat} {S0 S : List Dat} (h : FrM ℓ m S0 S) (hm : S0.length ≤ m) : FrS ℓ S0 S := ⟨h.1, fun j l n => h.2 j l n (by omega)⟩
theorem w_world {k : Nat} {S : List Dat} {C : Dat → List Dat → Prop} (h : Pot ℓ (k + 233) S) (q : ∀ kk cs ps S', kk ∈ kindsL → cs ∈ nsets → Pgms cs ps → Pot ℓ k S' → FrS ℓ S S' → C (wdict kk cs ps) S') : wp (L__law_world [.loc ℓ]) S C := by
  refine wp_run (wp_seq (wp_asg (wp_of (a := .lst ((kinds6.take 4).map kD)) (S' := S) rfl ?_)))
  refine ⟨_, rfl, ?_⟩
  dsimp only
  refine wp_seq (wp_asg (wp_call (wp_cons (wp_of (a := .loc ℓ) (S' := S) rfl (wp_cons (wp_of (a := .lst (kinds6.map kD)) (S' := S) rfl (wp_nil ?_)))))))
  have h : Pot ℓ (k + 232 + 1) S := h
  refine w_of h (by decide) (by decide) fun x S1 hx hp1 f1 => ?_
  obtain ⟨kk, hk, rfl⟩ := List.mem_map.mp hx
  refine ⟨[some (.loc ℓ), some (.lst ((kinds6.take 4).map kD)), some (kP kk.1), some (kP kk.2), none, none, none, none], rfl, ?_⟩
  dsimp only
  have hp1 : Pot ℓ (k + 230 + 2) S1 := hp1
  refine wp_seq (wp_asg (w_wl rfl hp1 fun cs S2 hcs hp2 f2 => ?_))
  refine ⟨_, rfl, ?_⟩
  dsimp only
  refine wp_seq (wp_asg (wp_of (a := .loc S2.length) (S' := S2 ++ [.lst [.int 2]]) rfl ?_))
  refine ⟨_, rfl, ?_⟩
  dsimp only
  refine wp_seq (wp_asg (wp_of (a := .loc (S2 ++ [Dat.lst [Dat.int 2]]).length) (S' := (S2 ++ [.lst [.int 2]]) ++ [.lst []]) rfl ?_))
  refine ⟨_, rfl, ?_⟩
  dsimp only
  have gl : (S2 ++ [Dat.lst [Dat.int 2]])[S2.length]? = some (.lst [.int 2]) := by rw [List.getElem?_append_right (Nat.le_refl _), Nat.sub_self] <;> rfl
  have hl2 := hp2.newGet (Nat.le_refl S2.length)
  generalize hS3 : S2 ++ [Dat.lst [Dat.int 2]] = S3 at gl ⊢
  have l3 : S3.length = S2.length + 1 := by rw [← hS3, List.length_append] <;> rfl
  have hp3 : Pot ℓ (k + 230) S3 := hS3 ▸ hp2.push
  have f3 : FrS ℓ S S3 := hS3 ▸ ((f1.trans f2).trans .push)
  have gm : (S3 ++ [Dat.lst []])[S2.length]? = some (.lst [.int 2]) := by rw [List.getElem?_append_left (by omega)]; exact gl
  have gn : (S3 ++ [Dat.lst []])[S3.length]? = some (.lst []) := by rw [List.getElem?_append_right (Nat.le_refl _), Nat.sub_self] <;> rfl
  have hl3 := hp3.newGet (Nat.le_refl S3.length)
  have hp4 : Pot ℓ (k + 228 + 2) (S3 ++ [Dat.lst []]) := hp3.push
  refine wp_seq (wp_bind (wp_bind (w_wl rfl hp4 fun nm S5 hnm hp5 f5 => ?_)))
  refine wp_of (a := nm.map .str) (S' := S5) rfl ?_
  have ln := nsets_len nm hnm
  have lc := nsets_len cs hcs
  have f35 : FrS ℓ S3 S5 := FrS.push.trans f5
  refine wp_for (I := PgI (ℓ := ℓ) cs k S2.length S3.length (some (.lst ((kinds6.take 4).map kD))) (some (kP kk.1)) (some (kP kk.2)) S3 nm) (fun d ds ρ S6 I => ?_) (fun ρ S6 I => ?_) _ _ _ ⟨⟨[], nm, [], 2, _, rfl, rfl, rfl, hp5.le (by omega), f5.get gn hl3, f5.get gm hl2, nofun, rfl, ?_⟩, f35.toM⟩
  · obtain ⟨⟨done, rest, acc, v, z7, e, ed, rfl, hp, ha, hv, A, ef, L⟩, hf⟩ := I
    match rest, ed with
    | c :: rest, ed =>
      injection ed with ed1 ed2
      subst ed1
      subst ed2
      refine ⟨_, rfl, ?_⟩
      have lla : acc.length = done.length := by
        have := congrArg List.length ef
        rw [List.length_map, List.length_map] at this
        exact this
      have lld : done.length ≤ 3 := by
        have := congrArg List.length e
        rw [List.length_append] at this
        omega
      refine wp_app (n := S3.length) (xs := acc) rfl ha (wp_cons (wp_tup (wp_cons (wp_of (a := .str c) (S' := S6) rfl (wp_cons (wp_call (wp_cons (wp_of (a := .loc ℓ) (S' := S6) rfl (wp_cons (wp_of (a := lstS cs) (S' := S6) rfl (wp_cons (wp_of (a := .loc S2.length) (S' := S6) rfl (wp_nil ?_)))))))))))))
      have hp : Pot ℓ (k + 76 * rest.length + 76) S6 := hp.le (by rw [List.length_cons]; omega)
      refine w_editions lc.1 hp hv hl2 fun eds v' S7 E l1 le3 L7 hv7 hp7 f7 => ?_
      have ha7 := f7.get ha hl3 (by omega)
      refine wp_nil ⟨(by decide : 2 ≤ 1000), wp_nil ⟨_, acc, rfl, ha7, by omega, ?_⟩⟩
      have cn : c ∈ NM := nsets_NM nm hnm c (by rw [e]; exact List.mem_append_right _ List.mem_cons_self)
      refine ⟨⟨done ++ [c], rest, acc ++ [.tup [.str c, .tup eds]], v', _, by rw [e, List.append_assoc] <;> rfl, rfl, rfl, hp7.other hl3, set_get ha7, ?_, fun p hp => ?_, by rw [List.map_append, List.map_append, ef] <;> rfl, ?_⟩, (hf.trans f7).setNew (Nat.le_refl _)⟩
      · rw [List.getElem?_set_ne (by omega)]
        exact hv7
      · rcases List.mem_append.mp hp with hp | hp
        · exact A p hp
        · rw [List.mem_singleton.mp hp]
          exact ⟨c, eds, rfl, cn, l1, le3, E.all, E.one⟩
      · rw [List.map_append, List.sum_append]
        show lftOk 2 v' ((acc.map cntP).sum + ((eds.map cntE).sum + 0))
        unfold lftOk at L L7 ⊢
        omega
  · obtain ⟨⟨done, rest, acc, v, z7, e, ed, rfl, hp, ha, hv, A, ef, L⟩, hf⟩ := I
    match rest, ed with
    | [], _ =>
      rw [List.append_nil] at e
      subst e
      have P : Pgms cs acc := ⟨A, ⟨nm, hnm, ef⟩, by unfold lftOk at L; omega⟩
      refine wp_ret (wp_of (a := wdict kk cs acc) (S' := S6) ?_ (wp_pure (q kk cs acc S6 (kinds6_in kk hk) hcs P (hp.le (by omega)) ?_)))
      · have t : xCB dTupleLo (xCons (xVar 6) xNil) [some (.loc ℓ), some (.lst ((kinds6.take 4).map kD)), some (kP kk.1), some (kP kk.2), some (lstS cs), some (.loc S2.length), some (.loc S3.length), z7] S6 = .ok (.tup acc) S6 := by
          refine cb_at (S1 := S6) (ds := [.loc S3.length]) rfl ?_
          unfold dTupleLo
          dsimp only
          rw [ha]
        have P4 := pairs_cons (S := S6) (ρ := [some (.loc ℓ), some (.lst ((kinds6.take 4).map kD)), some (kP kk.1), some (kP kk.2), some (lstS cs), some (.loc S2.length), some (.loc S3.length), z7]) (a := xC (.str "programs")) (x := .str "programs") rfl t (r := []) (l := []) rfl
        have P3 := pairs_cons (S := S6) (a := xC (.str "columns")) (x := .str "columns") (b := xCB dTuple (xCons (xVar 4) xNil)) (y := tupS cs) rfl rfl P4
        have P2 := pairs_cons (S := S6) (a := xC (.str "wide")) (x := .str "wide") (b := xVar 3) (y := kP kk.2) rfl rfl P3
        have P1 := pairs_cons (S := S6) (a := xC (.str "narrow")) (x := .str "narrow") (b := xVar 2) (y := kP kk.1) rfl rfl P2
        unfold xDisp
        rw [m_bind, P1] <;> rfl
      · have l12 := (f1.trans f2).1
        exact ⟨Nat.le_trans f3.1 hf.1, fun j l n => (hf.2 j (by omega) n (by omega)).trans (f3.2 j l n)⟩
  · unfold lftOk
    show (0 : Int) + max 2 0 ≤ max 2 0
    omega
end
end Zd

namespace Zd
open PySem PySem.Spec PyProof.Rows L2 Zg
/-! ### the span that is drawn -/
def ten6 (q : Ki × Ki) : List Ki := [(q.1.1, q.1.2), (q.1.1, q.1.2), (q.1.1, q.1.1 + 15), (q.1.1 + 3, q.1.2 - 2), (q.1.2 - 15, q.1.2), (q.1.1, q.1.2 + 16)]
def ten4 (q : Ki × Ki) : List Ki := [(q.1.1, q.1.2 + 40), (q.1.2 + 1, q.1.2 + 16), (q.1.1 + 1, q.1.1 + 17), (q.1.1, q.2.2)]
def ten (q : Ki × Ki) : List Ki := ten6 q ++ ten4 q
def fitB (q : Ki × Ki) (s : Ki) : Bool := decide (q.1.1 ≤ s.1) && decide (s.1 ≤ s.2) && decide (s.2 ≤ q.2.2) && ((decide (min s.2 q.1.2 - s.1 + 1 ≤ 0) || decide (16 ≤ min s.2 q.1.2 - s.1 + 1)) && (decide (s.2 - max s.1 (q.1.2 + 1) + 1 ≤ 0) || decide (16 ≤ s.2 - max s.1 (q.1.2 + 1) + 1)))
def spansOf (q : Ki × Ki) : List Ki := (ten q).filter (fitB q)
abbrev spanT : Env → M Dat := xLc (iLst (xVar 4)) (gN 5) (bTest (xCall L__law_is_fit (xCons (xVar 1) (xCons (xOp dIxT (xVar 5) (xC (.int 0))) (xCons (xOp dIxT (xVar 5) (xC (.int 1))) xNil))))) (xVar 5) [5]
theorem spanT_at (p : Dat) (cs : List Str) (ps : List Dat) (S : List Dat) : (kindsL.map fun q => spanT [some p, some (wdict q cs ps), some (.int q.1.1), some (.int q.1.2), some (.lst ((ten q).map kP)), none] S) = kindsL.map fun q => .ok (.lst ((spansOf q).map kP)) S := by kernel_rfl
theorem spansOf_len : ∀ q, q ∈ kindsL → 0 < (spansOf q).length ∧ (spansOf q).length ≤ 10 := by decide +kernel
section
variable {ℓ : Nat}
theorem w_span {kk : Ki × Ki} {cs : List Str} {ps : List Dat} {k : Nat} {S : List Dat} {C : Dat → List Dat → Prop} (hk : kk ∈ kindsL) (h : Pot ℓ (k + 1) S) (q : ∀ sp S', sp ∈ spansOf kk → Pot ℓ k S' → FrS ℓ S S' → C (kP sp) S') : wp (L__law_span [.loc ℓ, wdict kk cs ps]) S C := by
  refine wp_run (wp_seq (wp_asg (wp_of (a := kP kk.1) (S' := S) rfl ?_)))
  refine ⟨[some (.loc ℓ), some (wdict kk cs ps), some (.int kk.1.1), some (.int kk.1.2), none, none], rfl, ?_⟩
  dsimp only
  refine wp_seq (wp_asg (wp_of (a := .lst ((ten6 kk).map kP)) (S' := S) rfl ?_))
  refine ⟨_, rfl, ?_⟩
  dsimp only
  refine wp_seq (wp_asg (wp_of (a := .lst ((ten kk).map kP)) (S' := S) rfl ?_))
  refine ⟨_, rfl, ?_⟩
  dsimp only
  have e : spanT [some (.loc ℓ), some (wdict kk cs ps), some (.int kk.1.1), some (.int kk.1.2), some (.lst ((ten kk).map kP)), none] S = .ok (.lst ((spansOf kk).map kP)) S := map_eq (spanT_at (.loc ℓ) cs ps S) kk hk
  have l := spansOf_len kk hk
  generalize spansOf kk = sps at e q l
  refine wp_ret (wp_call (wp_cons (wp_of (a := .loc ℓ) (S' := S) rfl (wp_cons (wp_of e (wp_nil ?_))))))
  refine w_of h (by rw [List.length_map]; exact l.1) (by rw [List.length_map]; omega) fun x S1 hx hp f => ?_
  obtain ⟨sp, hs, rfl⟩ := List.mem_map.mp hx
  exact wp_pure (q sp S1 hs hp f)
end
end Zd

namespace Zd
open PySem PySem.Spec PyProof.Rows L2 Zg
/-! ### the first state -/
theorem dictP_at (x : Dat) (S : List Dat) : (nsets.map fun nm => dDictP [.lst (nm.map fun s => .tup [.str s, x])] S) = nsets.map fun nm => .ok (.dic (nm.map .inr) (nm.map fun _ => x)) S := by kernel_rfl
def stateD (w run sd : Dat) (sp : Ki) : Dat := .dic [.inr "world", .inr "running", .inr "sides", .inr "mirrors", .inr "long", .inr "first", .inr "last", .inr "lasts"] [w, run, sd, .dic [] [], .tup [], .int sp.1, .int sp.2, .tup [.int sp.2]]
section
variable {S : List Dat}
theorem state_at {kk : Ki × Ki} {cs : List Str} {ps : List Dat} {sp : Ki} (hc : cs ∈ nsets) (h : Pgms cs ps) : ∃ run sd, L__law_first_state [wdict kk cs ps, kP sp] S = .ok (stateD (wdict kk cs ps) run sd sp) S := by
  obtain ⟨nm, hn, ef⟩ := h.fs
  have ln := nsets_len nm hn
  have lc := nsets_len cs hc
  have lps : ps.length = nm.length := by
    have := congrArg List.length ef
    rw [List.length_map, List.length_map] at this
    exact this
  refine ⟨.dic (nm.map .inr) (nm.map fun _ => .tup [.int 0]), .dic (cs.map .inr) (cs.map fun _ => .str "narrow"), run_at (ret_at ?_)⟩
  generalize hρ : (startE N__law_first_state.length [wdict kk cs ps, kP sp]) = ρ
  have hρ2 : ρ = [some (wdict kk cs ps), some (kP sp), none, none, none] := hρ.symm
  subst hρ2
  have run : xCB dDictP (xCons (xLc (iTp (xDGet (xVar 0) (xC (.str "programs")))) (gT 2 (gCo (gN 2) (gCo (gN 3) gNl))) bYes (xTup (xCons (xVar 2) (xCons (xTup (xCons (xC (.int 0)) xNil)) xNil))) [2, 3]) xNil) [some (wdict kk cs ps), some (kP sp), none, none, none] S = .ok (.dic (nm.map .inr) (nm.map fun _ => .tup [.int 0])) S := by
    refine cb_at (S1 := S) (ds := [.lst (nm.map fun s => .tup [.str s, .tup [.int 0]])]) (one_at ?_) (map_eq (dictP_at (.tup [.int 0]) S) nm hn)
    unfold xLc
    rw [m_bind, show iTp (xDGet (xVar 0) (xC (.str "programs"))) [some (wdict kk cs ps), some (kP sp), none, none, none] S = .ok ps S from rfl]
    show ((M.need (decide (ps.length ≤ 100000)) >>= fun _ => compD _ bYes _ [some (wdict kk cs ps), some (kP sp), none, none, none] ps >>= fun es => pure (.lst es)) : M Dat) S = _
    rw [decide_eq_true (show ps.length ≤ 100000 by omega)]
    show ((compD _ bYes _ [some (wdict kk cs ps), some (kP sp), none, none, none] ps >>= fun es => pure (.lst es)) : M Dat) S = _
    rw [m_bind, comp_at2 (f := fun d => .tup [fstD d, .tup [.int 0]]) fun d hd => by
      obtain ⟨name, eds, rfl, _⟩ := h.all d hd
      exact ⟨_, rfl, rfl⟩]
    have e : ps.map (fun d => Dat.tup [fstD d, .tup [.int 0]]) = nm.map fun s => .tup [.str s, .tup [.int 0]] := by
      have e1 : ps.map (fun d => Dat.tup [fstD d, .tup [.int 0]]) = (ps.map fstD).map fun x => .tup [x, .tup [.int 0]] := by rw [List.map_map] <;> rfl
      rw [e1, ef, List.map_map] <;> rfl
    rw [e] <;> rfl
  have sides : xCB dDictP (xCons (xLc (iTp (xDGet (xVar 0) (xC (.str "columns")))) (gN 4) bYes (xTup (xCons (xVar 4) (xCons (xC (.str "narrow")) xNil))) [4]) xNil) [some (wdict kk cs ps), some (kP sp), none, none, none] S = .ok (.dic (cs.map .inr) (cs.map fun _ => .str "narrow")) S := by
    refine cb_at (S1 := S) (ds := [.lst (cs.map fun s => .tup [.str s, .str "narrow"])]) (one_at ?_) (map_eq (dictP_at (.str "narrow") S) cs hc)
    have e1 := lc_at (S := S) (ρ := [some (wdict kk cs ps), some (kP sp), none, none, none]) (f := fun x => .tup [x, .str "narrow"]) (it := iTp (xDGet (xVar 0) (xC (.str "columns")))) (e := xTup (xCons (xVar 4) (xCons (xC (.str "narrow")) xNil))) (i := 4) (vs := [4]) (ds := cs.map .str) rfl (by rw [List.length_map]; omega) fun d _ => rfl
    rw [e1, List.map_map] <;> rfl
  have P8 := pairs_cons (S := S) (ρ := [some (wdict kk cs ps), some (kP sp), none, none, none]) (a := xC (.str "lasts")) (x := .str "lasts") (b := xTup (xCons (xOp dIxT (xVar 1) (xC (.int 1))) xNil)) (y := .tup [.int sp.2]) rfl rfl (r := []) (l := []) rfl
  have P7 := pairs_cons (S := S) (a := xC (.str "last")) (x := .str "last") (b := xOp dIxT (xVar 1) (xC (.int 1))) (y := .int sp.2) rfl rfl P8
  have P6 := pairs_cons (S := S) (a := xC (.str "first")) (x := .str "first") (b := xOp dIxT (xVar 1) (xC (.int 0))) (y := .int sp.1) rfl rfl P7
  have P5 := pairs_cons (S := S) (a := xC (.str "long")) (x := .str "long") (b := xTup xNil) (y := .tup []) rfl rfl P6
  have P4 := pairs_cons (S := S) (a := xC (.str "mirrors")) (x := .str "mirrors") (b := xDic0) (y := .dic [] []) rfl rfl P5
  have P3 := pairs_cons (S := S) (a := xC (.str "sides")) (x := .str "sides") rfl sides P4
  have P2 := pairs_cons (S := S) (a := xC (.str "running")) (x := .str "running") rfl run P3
  have P1 := pairs_cons (S := S) (a := xC (.str "world")) (x := .str "world") (b := xVar 0) (y := wdict kk cs ps) rfl rfl P2
  unfold xDisp
  rw [m_bind, P1] <;> rfl
end
/-! ### the menu's steps -/
/-- a step of the menu: a word and its parts -/
def menuM (kk : Ki × Ki) (cs nm : List Str) (d : Dat) : Prop := (∃ c, c ∈ cs ∧ ∃ rule manner, rule ∈ (["refuse", "cut", "empty"] : List Str) ∧ manner ∈ (["anew", "empty"] : List Str) ∧ d ∈ ([.tup [.str "add", .str c], .tup [.str "up", .str c], .tup [.str "down", .str c, .str rule], .tup [.str "fill", .str c, .str manner], .tup [.str "no up", .str c], .tup [.str "no down", .str c], .tup [.str "fill back", .str c, .str manner, .str rule], .tup [.str "drop", .str c, .str "narrow"], .tup [.str "drop", .str c, .str "wide"]] : List Dat)) ∨
  (∃ n, n ∈ nm ∧ d ∈ ([.tup [.str "release", .str n], .tup [.str "withdraw", .str n]] : List Dat)) ∨ ∃ i : Int, -(10 ^ 20) < i ∧ i < 10 ^ 20 ∧ d ∈ ([.tup [.str "grow", .int i], .tup [.str "purge", .int i]] : List Dat)
section
variable {ℓ : Nat}
theorem w_colsteps {c : Str} {k : Nat} {S : List Dat} {C : Dat → List Dat → Prop} (h : Pot ℓ (k + 2) S) (q : ∀ rule manner S', rule ∈ (["refuse", "cut", "empty"] : List Str) → manner ∈ (["anew", "empty"] : List Str) → Pot ℓ k S' → FrS ℓ S S' →
    C (.lst [.tup [.str "add", .str c], .tup [.str "up", .str c], .tup [.str "down", .str c, .str rule], .tup [.str "fill", .str c, .str manner], .tup [.str "no up", .str c], .tup [.str "no down", .str c], .tup [.str "fill back", .str c, .str manner, .str rule], .tup [.str "drop", .str c, .str "narrow"], .tup [.str "drop", .str c, .str "wide"]]) S') : wp (L__law_column_steps [.loc ℓ, .str c]) S C := by
  have h : Pot ℓ (k + 1 + 1) S := h
  refine wp_run (wp_seq (wp_par ?_))
  refine wp_cons (wp_call (wp_cons (wp_of (a := .loc ℓ) (S' := S) rfl (wp_cons (wp_of (a := lstS ["refuse", "cut", "empty"]) (S' := S) rfl (wp_nil ?_))))))
  refine w_ofS ["refuse", "cut", "empty"] h (by decide) (by decide) fun rule S1 hr hp1 f1 => ?_
  refine wp_cons (wp_call (wp_cons (wp_of (a := .loc ℓ) (S' := S1) rfl (wp_cons (wp_of (a := lstS ["anew", "empty"]) (S' := S1) rfl (wp_nil ?_))))))
  refine w_ofS ["anew", "empty"] hp1 (by decide) (by decide) fun manner S2 hm hp2 f2 => ?_
  refine wp_nil ⟨_, _, rfl, ?_⟩
  refine wp_seq (wp_asg (wp_of (a := .lst [.tup [.str "add", .str c], .tup [.str "up", .str c], .tup [.str "down", .str c, .str rule], .tup [.str "fill", .str c, .str manner], .tup [.str "no up", .str c]]) (S' := S2) rfl ?_))
  refine ⟨_, rfl, ?_⟩
  refine wp_seq (wp_asg (wp_of (a := .lst [.tup [.str "add", .str c], .tup [.str "up", .str c], .tup [.str "down", .str c, .str rule], .tup [.str "fill", .str c, .str manner], .tup [.str "no up", .str c], .tup [.str "no down", .str c], .tup [.str "fill back", .str c, .str manner, .str rule], .tup [.str "drop", .str c, .str "narrow"]]) (S' := S2) rfl ?_))
  refine ⟨_, rfl, ?_⟩
  exact wp_ret (wp_of rfl (wp_pure (q rule manner S2 hr hm hp2 (f1.trans f2))))
end
end Zd

namespace Zd
open PySem PySem.Spec PyProof.Rows L2 Zg
def smallI (i : Int) : Prop := -(10 ^ 18) < i ∧ i < 10 ^ 18
theorem small_kinds : ∀ q, q ∈ kindsL → smallI q.1.2 ∧ smallI q.2.2 ∧ ∀ sp, sp ∈ spansOf q → smallI sp.1 ∧ smallI sp.2 := by
  unfold smallI
  decide +kernel
section
variable {ℓ : Nat}
theorem w_spansteps {kk : Ki × Ki} {cs : List Str} {ps : List Dat} {run sd : Dat} {sp : Ki} {k : Nat} {S : List Dat} {C : Dat → List Dat → Prop} (hk : kk ∈ kindsL) (hs : sp ∈ spansOf kk) (h : Pot ℓ (k + 4) S)
    (q : ∀ i j S', (-(10 ^ 20) < i ∧ i < 10 ^ 20) → (-(10 ^ 20) < j ∧ j < 10 ^ 20) → Pot ℓ k S' → FrS ℓ S S' → C (.lst [.tup [.str "grow", .int i], .tup [.str "purge", .int j]]) S') : wp (L__law_span_steps [.loc ℓ, stateD (wdict kk cs ps) run sd sp]) S C := by
  obtain ⟨sm1, sm2, sm3⟩ := small_kinds kk hk
  obtain ⟨sm4, sm5⟩ := sm3 sp hs
  unfold smallI at sm1 sm2 sm4 sm5
  have h : Pot ℓ (k + 1 + 1 + 1 + 1) S := h
  refine wp_run (wp_seq (wp_par3 (wp_of (a := [.int kk.1.2, .int sp.2, .int sp.1]) (S' := S) rfl ⟨_, _, _, rfl, ?_⟩)))
  dsimp only
  refine wp_seq (wp_asg (wp_of (a := .int kk.2.2) (S' := S) rfl ?_))
  refine ⟨_, rfl, ?_⟩
  dsimp only
  refine wp_seq (wp_asg (wp_lst ?_))
  refine wp_cons (wp_of (a := .int (sp.2 + 1)) (S' := S) rfl (wp_cons (wp_of (a := .int (kk.1.2 + 15)) (S' := S) rfl (wp_cons (wp_of (a := .int (kk.1.2 + 16)) (S' := S) rfl (wp_cons (wp_of (a := .int (sp.2 + 16)) (S' := S) rfl (wp_cons (wp_of (a := .int kk.2.2) (S' := S) rfl (wp_cons ?_))))))))))
  refine wp_op (wp_of (a := .int (sp.2 + 1)) (S' := S) rfl (wp_call (wp_cons (wp_of (a := .loc ℓ) (S' := S) rfl (wp_cons (wp_of (a := .int 60) (S' := S) rfl (wp_nil ?_)))))))
  refine w_take h (by decide) (by decide) fun r S1 r0 r1 hp1 f1 => ?_
  refine w_add (wp_cons (wp_of (a := .int (kk.2.2 + 1)) (S' := S1) rfl (wp_nil ?_)))
  refine ⟨show 7 ≤ 1000 by decide, _, rfl, ?_⟩
  dsimp only
  refine wp_seq (wp_asg (wp_lst ?_))
  refine wp_cons (wp_of (a := .int (sp.1 + 1)) (S' := S1) rfl (wp_cons (wp_of (a := .int (kk.1.2 - 15)) (S' := S1) rfl (wp_cons (wp_of (a := .int (kk.1.2 - 14)) (S' := S1) rfl (wp_cons (wp_of (a := .int (kk.1.2 + 1)) (S' := S1) rfl (wp_cons (wp_of (a := .int sp.2) (S' := S1) rfl (wp_cons (wp_of (a := .int (sp.2 - 15)) (S' := S1) rfl (wp_cons (wp_of (a := .int (sp.2 - 16)) (S' := S1) rfl (wp_cons ?_))))))))))))))
  refine wp_op (wp_of (a := .int (sp.1 + 1)) (S' := S1) rfl (wp_call (wp_cons (wp_of (a := .loc ℓ) (S' := S1) rfl (wp_cons (wp_of (a := .int 30) (S' := S1) rfl (wp_nil ?_)))))))
  refine w_take hp1 (by decide) (by decide) fun u S2 u0 u1 hp2 f2 => ?_
  refine w_add (wp_nil ?_)
  refine ⟨show 8 ≤ 1000 by decide, _, rfl, ?_⟩
  dsimp only
  refine wp_ret (wp_lst ?_)
  refine wp_cons (wp_tup (wp_cons (wp_of (a := .str "grow") (S' := S2) rfl (wp_cons (wp_call (wp_cons (wp_of (a := .loc ℓ) (S' := S2) rfl (wp_cons (wp_of (a := .lst (([sp.2 + 1, kk.1.2 + 15, kk.1.2 + 16, sp.2 + 16, kk.2.2, sp.2 + 1 + r, kk.2.2 + 1] : List Int).map .int)) (S' := S2) rfl (wp_nil ?_))))))))))
  refine w_ofI [sp.2 + 1, kk.1.2 + 15, kk.1.2 + 16, sp.2 + 16, kk.2.2, sp.2 + 1 + r, kk.2.2 + 1] hp2 (show 0 < 7 by decide) (show 7 ≤ 1000 by decide) fun i S3 hi hp3 f3 => ?_
  refine wp_nil ⟨(by decide : 2 ≤ 1000), ?_⟩
  refine wp_cons (wp_tup (wp_cons (wp_of (a := .str "purge") (S' := S3) rfl (wp_cons (wp_call (wp_cons (wp_of (a := .loc ℓ) (S' := S3) rfl (wp_cons (wp_of (a := .lst (([sp.1 + 1, kk.1.2 - 15, kk.1.2 - 14, kk.1.2 + 1, sp.2, sp.2 - 15, sp.2 - 16, sp.1 + 1 + u] : List Int).map .int)) (S' := S3) rfl (wp_nil ?_))))))))))
  refine w_ofI [sp.1 + 1, kk.1.2 - 15, kk.1.2 - 14, kk.1.2 + 1, sp.2, sp.2 - 15, sp.2 - 16, sp.1 + 1 + u] hp3 (show 0 < 8 by decide) (show 8 ≤ 1000 by decide) fun j S4 hj hp4 f4 => ?_
  refine wp_nil ⟨(by decide : 2 ≤ 1000), wp_nil ⟨(by decide : 2 ≤ 1000), wp_pure (q i j S4 ?_ ?_ hp4 (((f1.trans f2).trans f3).trans f4))⟩⟩
  · simp only [List.mem_cons, List.not_mem_nil, or_false] at hi
    omega
  · simp only [List.mem_cons, List.not_mem_nil, or_false] at hj
    omega
theorem names_of {kk : Ki × Ki} {cs nm : List Str} {ps : List Dat} {run sd : Dat} {sp : Ki} {c : Option Dat} {S : List Dat} (h : Pgms cs ps) (l3 : nm.length ≤ 3) (ef : ps.map fstD = nm.map .str) :
    xLc (iTp (xDGet (xDGet (xVar 1) (xC (.str "world"))) (xC (.str "programs")))) (gT 2 (gCo (gN 3) (gCo (gN 4) gNl))) bYes (xVar 3) [3, 4] [some (.loc ℓ), some (stateD (wdict kk cs ps) run sd sp), c, none, none] S = .ok (lstS nm) S := by
  have lps : ps.length = nm.length := by
    have := congrArg List.length ef
    rw [List.length_map, List.length_map] at this
    exact this
  unfold xLc
  rw [m_bind, show iTp (xDGet (xDGet (xVar 1) (xC (.str "world"))) (xC (.str "programs"))) [some (.loc ℓ), some (stateD (wdict kk cs ps) run sd sp), c, none, none] S = .ok ps S from rfl]
  show ((M.need (decide (ps.length ≤ 100000)) >>= fun _ => compD _ bYes _ [some (.loc ℓ), some (stateD (wdict kk cs ps) run sd sp), c, none, none] ps >>= fun es => pure (.lst es)) : M Dat) S = _
  rw [decide_eq_true (show ps.length ≤ 100000 by omega)]
  show ((compD _ bYes _ [some (.loc ℓ), some (stateD (wdict kk cs ps) run sd sp), c, none, none] ps >>= fun es => pure (.lst es)) : M Dat) S = _
  rw [m_bind, comp_at2 (f := fstD) fun d hd => by
    obtain ⟨name, eds, rfl, _⟩ := h.all d hd
    exact ⟨_, rfl, rfl⟩, ef] <;> rfl
theorem w_menu {kk : Ki × Ki} {cs nm : List Str} {ps : List Dat} {run sd : Dat} {sp : Ki} {k : Nat} {S : List Dat} {C : Dat → List Dat → Prop} (hk : kk ∈ kindsL) (hc : cs ∈ nsets) (hn : nm ∈ nsets) (hP : Pgms cs ps) (ef : ps.map fstD = nm.map .str) (hs : sp ∈ spansOf kk) (h : Pot ℓ (k + 8) S)
    (q : ∀ ds S', ds.length = 13 → (∀ d, d ∈ ds → menuM kk cs nm d) → Pot ℓ k S' → FrS ℓ S S' → C (.lst ds) S') : wp (L__law_menu [.loc ℓ, stateD (wdict kk cs ps) run sd sp]) S C := by
  have lc := nsets_len cs hc
  have ln := nsets_len nm hn
  have h : Pot ℓ (k + 4 + 2 + 1 + 1) S := h
  refine wp_run (wp_seq (wp_asg (wp_call (wp_cons (wp_of (a := .loc ℓ) (S' := S) rfl (wp_cons (wp_of (a := lstS cs) (S' := S) rfl (wp_nil ?_))))))))
  refine w_ofS cs h (by omega) (by omega) fun c S1 hcm hp1 f1 => ?_
  refine ⟨_, rfl, ?_⟩
  dsimp only
  refine wp_seq (wp_asg (wp_call (wp_cons (wp_of (a := .loc ℓ) (S' := S1) rfl (wp_cons (wp_of (names_of hP ln.1 ef) (wp_nil ?_)))))))
  refine w_ofS nm hp1 (by omega) (by omega) fun n S2 hnm hp2 f2 => ?_
  refine ⟨_, rfl, ?_⟩
  dsimp only
  refine wp_ret (wp_op (wp_op (wp_call (wp_cons (wp_of (a := .loc ℓ) (S' := S2) rfl (wp_cons (wp_of (a := .str c) (S' := S2) rfl (wp_nil ?_))))))))
  refine w_colsteps hp2 fun rule manner S3 hr hm hp3 f3 => ?_
  refine wp_of (a := .lst [.tup [.str "release", .str n], .tup [.str "withdraw", .str n]]) (S' := S3) rfl ?_
  refine wp_of (S' := S3) rfl ?_
  refine wp_call (wp_cons (wp_of (a := .loc ℓ) (S' := S3) rfl (wp_cons (wp_of (a := stateD (wdict kk cs ps) run sd sp) (S' := S3) rfl (wp_nil ?_)))))
  refine w_spansteps hk hs hp3 fun i j S4 hi hj hp4 f4 => ?_
  refine wp_of (S' := S4) rfl (wp_pure (q _ S4 rfl (fun d hd => ?_) hp4 (((f1.trans f2).trans f3).trans f4)))
  have hd : d ∈ ([.tup [.str "add", .str c], .tup [.str "up", .str c], .tup [.str "down", .str c, .str rule], .tup [.str "fill", .str c, .str manner], .tup [.str "no up", .str c], .tup [.str "no down", .str c], .tup [.str "fill back", .str c, .str manner, .str rule], .tup [.str "drop", .str c, .str "narrow"], .tup [.str "drop", .str c, .str "wide"]] ++ ([.tup [.str "release", .str n], .tup [.str "withdraw", .str n]] ++ [.tup [.str "grow", .int i], .tup [.str "purge", .int j]]) : List Dat) := hd
  rcases List.mem_append.mp hd with hd | hd
  · exact .inl ⟨c, hcm, rule, manner, hr, hm, hd⟩
  · rcases List.mem_append.mp hd with hd | hd
    · exact .inr (.inl ⟨n, hnm, hd⟩)
    · rcases List.mem_cons.mp hd with hd | hd
      · exact .inr (.inr ⟨i, hi.1, hi.2, by rw [hd]; exact List.mem_cons_self⟩)
      · exact .inr (.inr ⟨j, hj.1, hj.2, by rw [List.mem_singleton.mp hd]; exact List.mem_cons_of_mem _ List.mem_cons_self⟩)
end
end Zd

namespace Zd
open PySem PySem.Spec PyProof.Rows L2 Zg
/-! ### parts of a step: what the program says of them -/
def dat (d : Dat) : Bool := (kdT d).isSome
def isInt : Dat → Bool
  | .int _ => true
  | _ => false
def partW (cs nm : List Str) (p : Str) (d : Dat) : Bool :=
  if p = "column" then isS d cs else if p = "program" then isS d nm else if p = "side" then isS d ["narrow", "wide"] else if p = "rule" then isS d ["cut", "empty", "refuse"] else if p = "manner" then isS d ["empty", "anew"] else isInt d
section
variable {S : List Dat}
theorem k_integer {d : Dat} (h : dat d = true) : L_is_integer [d] S = .ok (.bl (isInt d)) S := by
  cases d <;> first | rfl | cases h
theorem in_gen {neg : Bool} {d : Dat} {cs : List Str} (h : dat d = true) : dInS neg d (tupS cs) S = .ok (.bl (neg != isS d cs)) S := by
  unfold dInS
  have e : ((itemsOf (tupS cs)).bind strsD) = some cs := strsD_map cs
  rw [e]
  cases d <;> first | rfl | cases h
theorem seq_rt {a b : Env → M Flow} {ρ : Env} {S S' : List Dat} {d : Dat} (h : a ρ S = .ok (.rt d) S') : sSeq a b ρ S = .ok (.rt d) S' := by
  unfold sSeq
  rw [m_bind, h] <;> rfl
theorem fb (b : Bool) : (false != b) = b := by cases b <;> rfl
theorem p_side {d : Dat} (h : dat d = true) : L_is_plain_part [.str "side", d] S = .ok (.bl (isS d ["narrow", "wide"])) S := by
  refine run_at (seq_rt ((if_t (S' := S) rfl).trans (ret_at (op_at (x := d) (y := tupS ["narrow", "wide"]) rfl rfl ?_))))
  rw [in_gen h, fb]
theorem p_rule {d : Dat} (h : dat d = true) : L_is_plain_part [.str "rule", d] S = .ok (.bl (isS d ["cut", "empty", "refuse"])) S := by
  refine run_at ((seq_at (S' := S) (ρ' := [some (.str "rule"), some d]) rfl).trans (seq_rt ((if_t (S' := S) rfl).trans (ret_at (op_at (x := d) (y := tupS ["cut", "empty", "refuse"]) rfl rfl ?_)))))
  rw [in_gen h, fb]
theorem p_manner {d : Dat} (h : dat d = true) : L_is_plain_part [.str "manner", d] S = .ok (.bl (isS d ["empty", "anew"])) S := by
  refine run_at ((seq_at (S' := S) (ρ' := [some (.str "manner"), some d]) rfl).trans ((seq_at (S' := S) (ρ' := [some (.str "manner"), some d]) rfl).trans (seq_rt ((if_t (S' := S) rfl).trans (ret_at (op_at (x := d) (y := tupS ["empty", "anew"]) rfl rfl ?_))))))
  rw [in_gen h, fb]
theorem p_number {d : Dat} (h : dat d = true) : L_is_plain_part [.str "number", d] S = .ok (.bl (isInt d)) S := by
  refine run_at ((seq_at (S' := S) (ρ' := [some (.str "number"), some d]) rfl).trans ((seq_at (S' := S) (ρ' := [some (.str "number"), some d]) rfl).trans ((seq_at (S' := S) (ρ' := [some (.str "number"), some d]) rfl).trans (seq_rt ((if_t (S' := S) rfl).trans (ret_at (call_at (S1 := S) (ds := [d]) rfl (k_integer h))))))))
theorem k_column {kk : Ki × Ki} {cs : List Str} {ps : List Dat} {d : Dat} (h : dat d = true) : L__is_part [worldO kk cs ps, .str "column", d] S = .ok (.bl (isS d cs)) S := by
  refine run_at (seq_rt ((if_t (S' := S) rfl).trans (ret_at (op_at (x := d) (y := tupS cs) rfl rfl ?_))))
  rw [in_gen h, fb]
theorem k_rest {kk : Ki × Ki} {cs : List Str} {ps : List Dat} {d : Dat} {b : Bool} {p : Str} (hp : p ∈ (["side", "rule", "manner", "number"] : List Str)) (h : L_is_plain_part [.str p, d] S = .ok (.bl b) S) : L__is_part [worldO kk cs ps, .str p, d] S = .ok (.bl b) S := by
  simp only [List.mem_cons, List.not_mem_nil, or_false] at hp
  rcases hp with rfl | rfl | rfl | rfl
  · exact run_at ((seq_at (S' := S) (ρ' := [some (worldO kk cs ps), some (.str "side"), some d]) rfl).trans ((seq_at (S' := S) (ρ' := [some (worldO kk cs ps), some (.str "side"), some d]) rfl).trans (ret_at (call_at (S1 := S) (ds := [.str "side", d]) rfl h))))
  · exact run_at ((seq_at (S' := S) (ρ' := [some (worldO kk cs ps), some (.str "rule"), some d]) rfl).trans ((seq_at (S' := S) (ρ' := [some (worldO kk cs ps), some (.str "rule"), some d]) rfl).trans (ret_at (call_at (S1 := S) (ds := [.str "rule", d]) rfl h))))
  · exact run_at ((seq_at (S' := S) (ρ' := [some (worldO kk cs ps), some (.str "manner"), some d]) rfl).trans ((seq_at (S' := S) (ρ' := [some (worldO kk cs ps), some (.str "manner"), some d]) rfl).trans (ret_at (call_at (S1 := S) (ds := [.str "manner", d]) rfl h))))
  · exact run_at ((seq_at (S' := S) (ρ' := [some (worldO kk cs ps), some (.str "number"), some d]) rfl).trans ((seq_at (S' := S) (ρ' := [some (worldO kk cs ps), some (.str "number"), some d]) rfl).trans (ret_at (call_at (S1 := S) (ds := [.str "number", d]) rfl h))))
end
end Zd

namespace Zd
open PySem PySem.Spec PyProof.Rows L2 Zg
/-! ### the drawn trees can be compared -/
def PyS (k : Nat) (d : Dat) : Prop := ∃ y, toPy d = some y ∧ y.canLay0 = true ∧ y.depth ≤ k
theorem pys_int {k : Nat} {i : Int} : PyS k (.int i) := ⟨.int i, rfl, rfl, Nat.zero_le _⟩
theorem pys_str {k : Nat} {s : Str} (h : (PyData.str s).canLay0 = true) : PyS k (.str s) := ⟨.str s, rfl, h, Nat.zero_le _⟩
theorem pys_list {k : Nat} : ∀ {ds : List Dat}, (∀ d, d ∈ ds → PyS k d) → ∃ ys, toPys ds = some ys ∧ PyData.canLayAll0 ys = true ∧ PyData.depthAll ys ≤ k ∧ ys.length = ds.length
  | [], _ => ⟨[], by rw [toPys], rfl, Nat.zero_le _, rfl⟩
  | d :: ds, h => by
    obtain ⟨y, e, c, l⟩ := h d List.mem_cons_self
    obtain ⟨ys, e2, c2, l2, n⟩ := pys_list fun x hx => h x (List.mem_cons_of_mem _ hx)
    refine ⟨y :: ys, ?_, ?_, ?_, by rw [List.length_cons, List.length_cons, n]⟩
    · rw [toPys, e, e2] <;> rfl
    · rw [PyData.canLayAll0, c, c2] <;> rfl
    · rw [PyData.depthAll]
      exact Nat.max_le.mpr ⟨l, l2⟩
theorem pys_tup {k : Nat} {ds : List Dat} (h : ∀ d, d ∈ ds → PyS k d) : ∃ ys, toPy (.tup ds) = some (.tuple ys) ∧ (PyData.tuple ys).canLay0 = true ∧ (PyData.tuple ys).depth ≤ k + 1 ∧ ys.length = ds.length := by
  obtain ⟨ys, e, c, l, n⟩ := pys_list h
  refine ⟨ys, ?_, ?_, ?_, n⟩
  · rw [toPy, e] <;> rfl
  · rw [PyData.canLay0]
    exact c
  · rw [PyData.depth]
    omega
theorem pys_of {k : Nat} {ds : List Dat} (h : ∀ d, d ∈ ds → PyS k d) : PyS (k + 1) (.tup ds) := by
  obtain ⟨ys, e, c, l, _⟩ := pys_tup h
  exact ⟨_, e, c, l⟩
def okS (s : Str) : Prop := (PyData.str s).canLay0 = true
instance {s : Str} : Decidable (okS s) := by unfold okS; infer_instance
theorem ok_NM : ∀ s, s ∈ NM → okS s := by decide +kernel
theorem ok_words : (∀ s, s ∈ sidesL → okS s) ∧ (∀ s, s ∈ howsL → okS s) ∧ (∀ s, s ∈ rulesL → okS s) ∧ (∀ s, s ∈ (["narrow", "wide"] : List Str) → okS s) ∧ okS "" := by decide +kernel
theorem ok_deeds : ∀ ss, ss ∈ deedsL → ∀ s, s ∈ ss → okS s := by decide +kernel
theorem ok_cols {cs : List Str} (hc : cs ∈ nsets) {c : Str} (h : c ∈ cs) : okS c := ok_NM c (nsets_NM cs hc c h)
theorem RdRow.py {f : Bool} {c : Str} {d : Dat} (h : RdRow f c d) (oc : okS c) : PyS 2 d := by
  obtain ⟨side, deeds, h1, _, h2, rfl⟩ := h
  refine pys_of (st_all3 (pys_str oc) (pys_str (ok_words.1 side h1)) (pys_of fun d hd => ?_))
  obtain ⟨s, hs, rfl⟩ := List.mem_map.mp hd
  exact pys_str (ok_deeds deeds h2 s hs)
theorem WrRow.py {f : Bool} {srcs : List Str} {c : Str} {d : Dat} (h : WrRow f srcs c d) (oc : okS c) (os : ∀ s, s ∈ srcs → okS s) : PyS 2 d := by
  obtain ⟨how, rule, src, pace, h1, _, h2, _, h4, rfl⟩ := h
  have o4 : okS src := by
    by_cases e : src = ""
    · rw [e]
      exact ok_words.2.2.2.2
    · exact os src (h4 e).1
  refine pys_of fun d hd => ?_
  rcases List.mem_cons.mp hd with hd | hd
  · rw [hd]
    exact pys_str oc
  · exact st_all4 (pys_str (ok_words.2.1 how h1)) (pys_str (ok_words.2.2.1 rule h2)) (pys_str o4) pys_int d hd
theorem EdnD.py {f : Bool} {cs : List Str} {d : Dat} (hc : cs ∈ nsets) (h : EdnD f cs d) : PyS 4 d := by
  obtain ⟨sight, rs, ws, rfl, E⟩ := h
  obtain ⟨ss, sub, ef⟩ := E.r.fs
  have os : ∀ s, s ∈ firsts rs → okS s := fun s hs => ok_cols hc (sub.subset (by rw [firsts_of ef] at hs; exact hs))
  exact pys_of (st_all3 (pys_str (ok_words.2.2.2.1 sight E.s)) (pys_of fun d hd => (E.r.at_ d hd).elim fun c k => k.2.py (ok_cols hc k.1)) (pys_of fun d hd => (E.w.at_ d hd).elim fun c k => k.2.py (ok_cols hc k.1) os))
/-- a program's editions are not () -/
theorem eds_ne {cs : List Str} {name : Str} {eds : List Dat} {S : List Dat} (hc : cs ∈ nsets) (h : Pgm cs name eds) : dEqD true (.tup eds) (.tup []) S = .ok (.bl true) S := by
  obtain ⟨ys, e, c, l, n⟩ := pys_tup (k := 4) (ds := eds) fun d hd => (h.all d hd).elim fun f k => k.py hc
  have e0 : toPy (.tup []) = some (.tuple []) := by
    rw [toPy, toPys] <;> rfl
  unfold dEqD
  rw [e, e0]
  have sh : shp (.tuple ys) = true := by
    unfold shp SeqAt.shaped
    rw [c, decide_eq_true (show (PyData.tuple ys).depth ≤ 64 by omega)] <;> rfl
  show ((M.need (shp (.tuple ys) && shp (.tuple [])) >>= fun _ => pure (.bl (true != PyData.eqv (.tuple ys) (.tuple [])))) : M Dat) S = _
  rw [sh]
  have l1 := h.l1
  match ys, n with
  | [], n => exact absurd n (by show ¬ 0 = eds.length; omega)
  | y :: ys, _ =>
    have ev : PyData.eqv (.tuple (y :: ys)) (.tuple []) = false := by
      rw [PyData.eqv, PyData.eqvAll]
    rw [ev]
    rfl
end Zd

namespace Zd
open PySem PySem.Spec PyProof.Rows L2 Zg
/-- what a part of a step must be for the program's look: a datum that can be compared with a text -/
structure Pv (d : Dat) : Prop where
  k : dat d = true
  e : ∀ n S, okS n → dEqD false (.str n) d S = .ok (.bl (isS d [n])) S
theorem isS_cons {d : Dat} {n : Str} {nm : List Str} : isS d (n :: nm) = (isS d [n] || isS d nm) := by
  cases d <;> first | rfl | (unfold isS; simp [List.any_cons])
abbrev findB : Env → M Flow := sIf (bTest (xOp (dEqD false) (xVar 2) (xVar 1))) (sRet (xVar 3)) sNx
section
variable {S : List Dat}
theorem ed_loop {cs : List Str} {W : Option Dat} {d : Dat} (hd : Pv d) : ∀ (ps : List Dat) (nm : List Str) (z2 z3 : Option Dat), (∀ p, p ∈ ps → PgmD cs p) → ps.map fstD = nm.map .str →
    match isS d nm with
    | false => ∃ z2' z3', forD (gT 2 (gCo (gN 2) (gCo (gN 3) gNl))) findB ps [W, some d, z2, z3] S = .ok (.nx [W, some d, z2', z3']) S
    | true => ∃ name eds, Pgm cs name eds ∧ forD (gT 2 (gCo (gN 2) (gCo (gN 3) gNl))) findB ps [W, some d, z2, z3] S = .ok (.rt (.tup eds)) S
  | [], nm, z2, z3, _, ef => by
    have e0 : nm = [] := by
      cases nm with
      | nil => rfl
      | cons a l => cases ef
    subst e0
    have e1 : isS d [] = false := by cases d <;> rfl
    rw [e1]
    exact ⟨z2, z3, rfl⟩
  | p :: ps, nm, z2, z3, h, ef => by
    obtain ⟨name, eds, rfl, E⟩ := h p List.mem_cons_self
    match nm, ef with
    | n :: nm, ef =>
      injection ef with e1 e2
      injection e1 with e1
      subst e1
      have ih := ed_loop (W := W) hd ps nm (some (.str name)) (some (.tup eds)) (fun p hp => h p (List.mem_cons_of_mem _ hp)) e2
      have t0 : bTest (xOp (dEqD false) (xVar 2) (xVar 1)) [W, some d, some (.str name), some (.tup eds)] S = .ok (isS d [name]) S := test_at (op_at (x := .str name) (y := d) rfl rfl (hd.e name S (ok_NM name E.n)))
      have st : forD (gT 2 (gCo (gN 2) (gCo (gN 3) gNl))) findB (.tup [.str name, .tup eds] :: ps) [W, some d, z2, z3] S = ((findB [W, some d, some (.str name), some (.tup eds)] >>= fun f => match f with | .nx ρ2 => forD (gT 2 (gCo (gN 2) (gCo (gN 3) gNl))) findB ps ρ2 | .ct ρ2 => forD (gT 2 (gCo (gN 2) (gCo (gN 3) gNl))) findB ps ρ2 | .bk ρ2 => pure (.nx ρ2) | .rt d => pure (.rt d)) : M Flow) S := rfl
      rw [isS_cons]
      cases q : isS d [name] with
      | true =>
        rw [q] at t0
        have fb1 : findB [W, some d, some (.str name), some (.tup eds)] S = .ok (.rt (.tup eds)) S := (if_t t0).trans (ret_at rfl)
        refine ⟨name, eds, E, ?_⟩
        rw [st, m_bind, fb1] <;> rfl
      | false =>
        rw [q] at t0
        have fb1 : findB [W, some d, some (.str name), some (.tup eds)] S = .ok (.nx [W, some d, some (.str name), some (.tup eds)]) S := (if_f t0).trans rfl
        rw [Bool.false_or]
        cases r : isS d nm with
        | true =>
          rw [r] at ih
          obtain ⟨name2, eds2, E2, k⟩ := ih
          exact ⟨name2, eds2, E2, by rw [st, m_bind, fb1]; exact k⟩
        | false =>
          rw [r] at ih
          obtain ⟨y2, y3, k⟩ := ih
          exact ⟨y2, y3, by rw [st, m_bind, fb1]; exact k⟩
theorem k_program {kk : Ki × Ki} {cs nm : List Str} {ps : List Dat} {d : Dat} (hc : cs ∈ nsets) (hP : Pgms cs ps) (ef : ps.map fstD = nm.map .str) (hd : Pv d) : L__is_part [worldO kk cs ps, .str "program", d] S = .ok (.bl (isS d nm)) S := by
  refine run_at ((seq_at (S' := S) (ρ' := [some (worldO kk cs ps), some (.str "program"), some d]) rfl).trans (seq_rt ((if_t (S' := S) rfl).trans (ret_at ?_))))
  have lp := ed_loop (S := S) (W := some (worldO kk cs ps)) hd ps nm none none hP.all ef
  cases q : isS d nm with
  | true =>
    rw [q] at lp
    obtain ⟨name, eds, E, k⟩ := lp
    have e1 : L_editions_of [worldO kk cs ps, d] S = .ok (.tup eds) S := run_at (seq_rt (sfor_at (ds := ps) rfl k))
    exact op_at (x := .tup eds) (y := .tup []) (call_at (S1 := S) (ds := [worldO kk cs ps, d]) rfl e1) rfl (eds_ne hc E)
  | false =>
    rw [q] at lp
    obtain ⟨z2, z3, k⟩ := lp
    have e1 : L_editions_of [worldO kk cs ps, d] S = .ok (.tup []) S := run_at ((seq_at (S' := S) (sfor_at (ds := ps) rfl k)).trans rfl)
    exact op_at (x := .tup []) (y := .tup []) (call_at (S1 := S) (ds := [worldO kk cs ps, d]) rfl e1) rfl rfl
end
end Zd

namespace Zd
open PySem PySem.Spec PyProof.Rows L2 Zg
def PTW : List Str := ["column", "program", "side", "rule", "manner", "number"]
section
variable {S : List Dat}
theorem isS_swap {d : Dat} {a b : Str} : isS d [a, b] = isS d [b, a] := by
  cases d <;> first | rfl | (unfold isS; simp [List.any_cons, Bool.or_comm])
theorem k_part {kk : Ki × Ki} {cs nm : List Str} {ps : List Dat} {d : Dat} {p : Str} (hc : cs ∈ nsets) (hP : Pgms cs ps) (ef : ps.map fstD = nm.map .str) (hp : p ∈ PTW) (hd : Pv d) : L__is_part [worldO kk cs ps, .str p, d] S = .ok (.bl (partW cs nm p d)) S := by
  unfold PTW at hp
  simp only [List.mem_cons, List.not_mem_nil, or_false] at hp
  rcases hp with rfl | rfl | rfl | rfl | rfl | rfl
  · exact k_column hd.k
  · exact k_program hc hP ef hd
  · exact k_rest (by decide +kernel) (p_side hd.k)
  · exact k_rest (by decide +kernel) (p_rule hd.k)
  · exact k_rest (by decide +kernel) (p_manner hd.k)
  · exact k_rest (by decide +kernel) (p_number hd.k)
/-- the law's own look at a part -/
theorem l_number {w d : Dat} (h : dat d = true) : L__law_fits [w, .str "number", d] S = .ok (.bl (isInt d)) S := by
  refine run_at (seq_rt ((if_t (S' := S) rfl).trans (ret_at ?_)))
  cases d <;> first | rfl | cases h
def listW (cs nm : List Str) (p : Str) : List Str := if p = "column" then cs else if p = "program" then nm else if p = "side" then ["narrow", "wide"] else if p = "rule" then ["cut", "empty", "refuse"] else ["anew", "empty"]
theorem l_text {kk : Ki × Ki} {cs nm : List Str} {ps : List Dat} {d : Dat} {p : Str} (hP : Pgms cs ps) (l3 : nm.length ≤ 3) (ef : ps.map fstD = nm.map .str) (hp : p ∈ (["column", "program", "side", "rule", "manner"] : List Str)) (hd : dat d = true) : L__law_fits [wdict kk cs ps, .str p, d] S = .ok (.bl (isS d (listW cs nm p))) S := by
  have lps : ps.length = nm.length := by
    have := congrArg List.length ef
    rw [List.length_map, List.length_map] at this
    exact this
  have nm1 : xLc (iTp (xDGet (xVar 0) (xC (.str "programs")))) (gT 2 (gCo (gN 5) (gCo (gN 6) gNl))) bYes (xVar 5) [5, 6] [some (wdict kk cs ps), some (.str p), some d, none, none, none, none] S = .ok (lstS nm) S := by
    unfold xLc
    rw [m_bind, show iTp (xDGet (xVar 0) (xC (.str "programs"))) [some (wdict kk cs ps), some (.str p), some d, none, none, none, none] S = .ok ps S from rfl]
    show ((M.need (decide (ps.length ≤ 100000)) >>= fun _ => compD _ bYes _ [some (wdict kk cs ps), some (.str p), some d, none, none, none, none] ps >>= fun es => pure (.lst es)) : M Dat) S = _
    rw [decide_eq_true (show ps.length ≤ 100000 by omega)]
    show ((compD _ bYes _ [some (wdict kk cs ps), some (.str p), some d, none, none, none, none] ps >>= fun es => pure (.lst es)) : M Dat) S = _
    rw [m_bind, comp_at2 (f := fstD) fun d hd => by
      obtain ⟨name, eds, rfl, _⟩ := hP.all d hd
      exact ⟨_, rfl, rfl⟩, ef] <;> rfl
  let D : Dat := .dic [.inr "column", .inr "program", .inr "side", .inr "rule", .inr "manner"] [lstS cs, lstS nm, lstS ["narrow", "wide"], lstS ["cut", "empty", "refuse"], lstS ["anew", "empty"]]
  have get : dDGet D (.str p) S = .ok (lstS (listW cs nm p)) S ∧ dEq (.str p) (.str "number") S = .ok (.bl false) S := by
    simp only [List.mem_cons, List.not_mem_nil, or_false] at hp
    rcases hp with rfl | rfl | rfl | rfl | rfl <;> exact ⟨rfl, rfl⟩
  refine run_at ((seq_at (S' := S) (ρ' := [some (wdict kk cs ps), some (.str p), some d, none, none, none, none]) ((if_f (S' := S) (test_at (op_at (x := .str p) (y := .str "number") rfl rfl get.2))).trans rfl)).trans ?_)
  rw [seq_at (S' := S) (asg_at nm1 rfl)]
  rw [seq_at (S' := S) (asg_at (d := D) rfl rfl)]
  refine ret_at ?_
  have isd : ∀ xs : List Str, dInS false d (lstS xs) S = .ok (.bl (isS d xs)) S := fun xs => by
    have := in_gen (S := S) (neg := false) (cs := xs) hd
    rw [fb] at this
    exact this
  cases d with
  | str y => exact (and_t (S' := S) rfl).trans (op_at (x := .str y) (y := lstS (listW cs nm p)) rfl ((show _ = _ from get.1)) (isd _))
  | _ => first | rfl | cases hd
theorem k_fits {kk : Ki × Ki} {cs nm : List Str} {ps : List Dat} {d : Dat} {p : Str} (hP : Pgms cs ps) (l3 : nm.length ≤ 3) (ef : ps.map fstD = nm.map .str) (hp : p ∈ PTW) (hd : dat d = true) : L__law_fits [wdict kk cs ps, .str p, d] S = .ok (.bl (partW cs nm p d)) S := by
  unfold PTW at hp
  simp only [List.mem_cons, List.not_mem_nil, or_false] at hp
  rcases hp with rfl | rfl | rfl | rfl | rfl | rfl
  · exact l_text hP l3 ef (by decide +kernel) hd
  · exact l_text hP l3 ef (by decide +kernel) hd
  · exact l_text hP l3 ef (by decide +kernel) hd
  · exact l_text hP l3 ef (by decide +kernel) hd
  · exact (l_text hP l3 ef (by decide +kernel) hd).trans (congrArg (fun b => Out.ok (Dat.bl b) S) (isS_swap (d := d) (a := "anew") (b := "empty")))
  · exact l_number hd
end
end Zd

namespace Zd
open PySem PySem.Spec PyProof.Rows L2 Zg
theorem eq_wp {m : M Dat} {S : List Dat} {x : Dat} (h : wp m S fun a S' => a = x ∧ S' = S) : m S = .ok x S := by
  obtain ⟨a, S', e, e1, e2⟩ := wp_ok h
  rw [e, e1, e2]
theorem bls_map : ∀ bs : List Bool, blsOf (bs.map .bl) = some bs
  | [] => rfl
  | b :: r => by rw [List.map_cons]; unfold blsOf; rw [bls_map r]; rfl
theorem all_of {bs : List Bool} {S : List Dat} : dAll [.lst (bs.map .bl)] S = .ok (.bl (bs.all id)) S := by
  unfold dAll
  simp only [bls_map]
  rfl
def zipB (F : Str → Dat → Bool) (ps : List Str) (items : List Dat) : List Bool := (ps.zip items).map fun q => F q.1 q.2
theorem comp_zip {F : Str → Dat → Bool} {e : Env → M Dat} {ρ : Env} {i j : Nat} {S : List Dat} : ∀ {ps : List Str} {items : List Dat}, (∀ p d, p ∈ ps → d ∈ items → e ((ρ.set i (some (.str p))).set j (some d)) S = .ok (.bl (F p d)) S) →
    compD (gT 2 (gCo (gN i) (gCo (gN j) gNl))) bYes e ρ (zipD (ps.map .str) items) S = .ok ((zipB F ps items).map .bl) S
  | [], items, _ => rfl
  | p :: ps, [], _ => rfl
  | p :: ps, d :: items, h => by
    show compD _ bYes e ρ (.tup [.str p, d] :: zipD (ps.map .str) items) S = _
    have h1 := h p d List.mem_cons_self List.mem_cons_self
    have h2 := comp_zip (e := e) (ρ := ρ) (i := i) (j := j) (S := S) fun p d hp hd => h p d (List.mem_cons_of_mem _ hp) (List.mem_cons_of_mem _ hd)
    unfold compD
    show ((e ((ρ.set i (some (.str p))).set j (some d)) >>= fun x => compD _ bYes e ρ (zipD (ps.map .str) items) >>= fun xs => pure (x :: xs)) : M (List Dat)) S = _
    rw [m_bind, h1]
    show ((compD _ bYes e ρ (zipD (ps.map .str) items) >>= fun xs => pure (.bl (F p d) :: xs)) : M (List Dat)) S = _
    rw [m_bind, h2]
    rfl
theorem zip_lenD {xs ys : List Dat} : (zipD xs ys).length = min xs.length ys.length := zip_len
theorem wp_ne {S : List Dat} {i j : Int} {C : Dat → List Dat → Prop} (h : C (.bl (!decide (i = j))) S) : wp (dNe (.int i) (.int j)) S C := by
  refine wp_of (a := .bl (!decide (i = j))) ?_ h
  show (M.need (scal (V.int i) (V.int j)) >>= fun _ => pure (Dat.bl (!decide (V.int i = V.int j)))) S = _
  have e : decide (V.int i = V.int j) = decide (i = j) := by
    by_cases c : i = j
    · subst c; simp
    · rw [decide_eq_false c, decide_eq_false fun z => c (by injection z)]
  rw [e]
  rfl
def formZ (cs nm : List Str) (form : List Str) (items : List Dat) : Bool := decide (items.length = form.length) && (zipB (partW cs nm) form items).all id
section
variable {kk : Ki × Ki} {cs nm : List Str} {ps : List Dat}
theorem k_parts {form : List Str} {items : List Dat} (hc : cs ∈ nsets) (hP : Pgms cs ps) (ef : ps.map fstD = nm.map .str) (hf : ∀ p ∈ form, p ∈ PTW) (hi : ∀ d ∈ items, Pv d) (l : items.length ≤ 100) (l2 : form.length ≤ 100) (S : List Dat) : L_are_parts [worldO kk cs ps, strsT form, .tup items] S = .ok (.bl (formZ cs nm form items)) S := by
  refine eq_wp (wp_run ?_)
  refine wp_seq (wp_if (wp_test (wp_op (wp_of (a := .int items.length) (S' := S) rfl (wp_of (a := .int (form.map Dat.str).length) (S' := S) rfl (wp_ne ⟨_, rfl, fun h => ?_, fun h => ?_⟩))))))
  · refine wp_of rfl ?_
    refine wp_of rfl ⟨?_, rfl⟩
    rw [List.length_map, Bool.not_eq_true', decide_eq_false_iff_not] at h
    unfold formZ
    rw [decide_eq_false (by omega), Bool.false_and]
  · refine wp_of rfl ?_
    rw [List.length_map, Bool.not_eq_false', decide_eq_true_eq] at h
    refine wp_ret (wp_cb (wp_cons (wp_lc (wp_of (a := zipD (form.map .str) items) (S' := S) rfl ⟨?_, ?_⟩))))
    · rw [zip_lenD]
      omega
    · refine wp_of (comp_zip (F := partW cs nm) fun p d hp hd => ?_) ?_
      · have k := k_part (S := S) (kk := kk) hc hP ef (hf p hp) (hi d hd)
        show (calm (L__is_part [worldO kk cs ps, .str p, d])) S = _
        unfold calm
        rw [k]
      · refine wp_nil (wp_of all_of ?_)
        refine wp_of rfl ⟨?_, rfl⟩
        unfold formZ
        rw [decide_eq_true (by omega), Bool.true_and]
theorem cut1 {x : Dat} {xs : List Dat} : cutD (x :: xs) (some 1) none = xs := by
  unfold cutD HT.sIx
  simp
def fw : Dat → Str
  | .tup (.str w :: _) => w
  | _ => ""
/-- a value two levels deep -/
def Gv (d : Dat) : Prop := dat d = true ∧ ∀ ds, d = .tup ds → ds.length ≤ 100 ∧ ∀ x ∈ ds, Pv x
theorem ix0 {x : Dat} {r : List Dat} (S : List Dat) : dIxT (.tup (x :: r)) (.int 0) S = .ok x S := by
  show M.opt (atI (x :: r) 0) S = _
  have e : atI (x :: r) 0 = some x := by
    unfold atI ixN
    have : (0 : Int) < ((x :: r).length : Int) := by rw [List.length_cons]; omega
    simp [this]
  rw [e]
  rfl
theorem k_first {d : Dat} (h : Gv d) (S : List Dat) : L__first_word [d] S = .ok (.str (fw d)) S := by
  obtain ⟨h1, h2⟩ := h
  cases d with
  | tup ds =>
    cases ds with
    | nil => rfl
    | cons x r =>
      have := (h2 _ rfl).2 x List.mem_cons_self
      have h3 := this.k
      refine eq_wp (wp_run (wp_seq (wp_if (wp_or (wp_of (a := false) (S' := S) rfl ⟨nofun, fun _ => ?_⟩)))))
      refine wp_or (wp_of (a := false) (S' := S) rfl ⟨nofun, fun _ => ?_⟩)
      refine wp_not (wp_test (wp_cb (wp_cons (wp_op (wp_of (a := .tup (x :: r)) (S' := S) rfl (wp_of (a := .int 0) (S' := S) rfl (wp_of (a := x) (S' := S) (ix0 S) ?_)))))))
      refine wp_cons (wp_of (a := .ty "str") (S' := S) rfl (wp_nil ?_))
      cases x with
      | str w =>
        refine wp_of (a := .bl true) (S' := S) rfl ⟨_, rfl, nofun, fun _ => ?_⟩
        refine wp_of rfl ?_
        refine wp_ret (wp_op (wp_of (a := .tup (.str w :: r)) (S' := S) rfl (wp_of (a := .int 0) (S' := S) rfl (wp_of (a := .str w) (S' := S) (ix0 S) ?_))))
        exact wp_of rfl ⟨rfl, rfl⟩
      | _ => first | (refine wp_of (a := .bl false) (S' := S) rfl ⟨_, rfl, fun _ => ?_, nofun⟩; refine wp_of rfl ?_; exact wp_of rfl ⟨rfl, rfl⟩) | cases h3
  | _ => first | rfl | cases h1
def fo (o : Option (List Str)) : Dat := match o with
  | some xs => strsT xs
  | none => .non
theorem k_sform {d : Dat} (h : Gv d) (S : List Dat) : L_step_form [d] S = .ok (fo (lkT (fw d) t_STEP_FORMS)) S := by
  refine eq_wp (wp_run (wp_ret (wp_bind ?_)))
  refine wp_call (wp_cons (wp_of rfl (wp_nil (wp_of (k_first h S) ?_))))
  exact wp_of rfl ⟨rfl, rfl⟩
def stepW (cs nm : List Str) : Dat → Bool
  | .tup (.str w :: items) => match lkT w t_STEP_FORMS with
    | some form => formZ cs nm form items
    | none => false
  | _ => false
theorem lkT_mem {z : Str} {form : List Str} : ∀ {tab : List (Str × List Str)}, lkT z tab = some form → ∃ k, (k, form) ∈ tab
  | [], h => by cases h
  | (k, xs) :: r, h => by
    unfold lkT at h
    by_cases e : (k == z) = true
    · rw [if_pos e] at h
      cases h
      exact ⟨k, List.mem_cons_self⟩
    · rw [if_neg e] at h
      obtain ⟨k', m⟩ := lkT_mem h
      exact ⟨k', List.mem_cons_of_mem _ m⟩
theorem step_pts {z : Str} {form : List Str} (h : lkT z t_STEP_FORMS = some form) : (∀ p ∈ form, p ∈ PTW) ∧ form.length ≤ 100 := by
  obtain ⟨k, m⟩ := lkT_mem h
  simp only [t_STEP_FORMS, List.mem_cons, List.not_mem_nil, or_false, Prod.mk.injEq] at m
  rcases m with ⟨_, rfl⟩ | ⟨_, rfl⟩ | ⟨_, rfl⟩ | ⟨_, rfl⟩ | ⟨_, rfl⟩ | ⟨_, rfl⟩ | ⟨_, rfl⟩ | ⟨_, rfl⟩ | ⟨_, rfl⟩ | ⟨_, rfl⟩ | ⟨_, rfl⟩ | ⟨_, rfl⟩ <;> decide
theorem fw_some {d : Dat} {tab : List (Str × List Str)} {form : List Str} (h0 : lkT "" tab = none) (h : lkT (fw d) tab = some form) : ∃ w items, d = .tup (.str w :: items) ∧ lkT w tab = some form := by
  unfold fw at h
  split at h
  · exact ⟨_, _, rfl, h⟩
  · rw [h0] at h
    cases h
theorem k_isstep {d : Dat} (hc : cs ∈ nsets) (hP : Pgms cs ps) (ef : ps.map fstD = nm.map .str) (h : Gv d) (S : List Dat) : L_is_step [worldO kk cs ps, d] S = .ok (.bl (stepW cs nm d)) S := by
  refine eq_wp (wp_run (wp_seq (wp_asg (wp_call (wp_cons (wp_of rfl (wp_nil (wp_of (k_sform h S) ⟨_, rfl, ?_⟩))))))))
  cases e : lkT (fw d) t_STEP_FORMS with
  | none =>
    refine wp_of rfl (wp_of rfl ⟨?_, rfl⟩)
    have : stepW cs nm d = false := by
      unfold stepW
      split
      · rename_i w items
        have e : lkT w t_STEP_FORMS = none := e
        rw [e]
      · rfl
    rw [this]
  | some form =>
    obtain ⟨w, items, rfl, e2⟩ := fw_some (by decide) e
    obtain ⟨p1, p2⟩ := step_pts e2
    have hd := h.2 _ rfl
    refine wp_ret (wp_andV (wp_of (a := .bl true) (S' := S) rfl ⟨_, rfl, fun _ => ?_, nofun⟩))
    refine wp_call (wp_cons (wp_of (a := worldO kk cs ps) (S' := S) rfl (wp_cons (wp_of (a := strsT form) (S' := S) rfl (wp_cons (wp_of (a := .tup items) (S' := S) ?_ (wp_nil ?_)))))))
    · show (Out.ok (Dat.tup (cutD (.str w :: items) (some 1) none)) S : Out Dat) = _
      rw [cut1]
    · refine wp_of (k_parts (kk := kk) hc hP ef p1 (fun x m => hd.2 x (List.mem_cons_of_mem _ m)) (by have := hd.1; rw [List.length_cons] at this; omega) p2 S) (wp_of rfl ⟨?_, rfl⟩)
      unfold stepW
      simp only [e2]
end
end Zd

namespace Zd
open PySem PySem.Spec PyProof.Rows L2 Zg
theorem worldO_nl {kk : Ki × Ki} {cs : List Str} {ps : List Dat} (h : Pgms cs ps) : noLoc (worldO kk cs ps) = true := (st_obj (k := 8) (c := "World") (fs := ["narrow", "wide", "columns", "programs"]) (st_all4 (P := St 8) ⟨st_kind.1, fun S n hn => st_kind.2 S n (by omega)⟩ ⟨st_kind.1, fun S n hn => st_kind.2 S n (by omega)⟩ ⟨(st_strs (k := 0)).1, fun S n hn => (st_strs (k := 0)).2 S n (by omega)⟩ h.st)).1
theorem c_isstep {kk : Ki × Ki} {cs nm : List Str} {ps : List Dat} {d : Dat} (hc : cs ∈ nsets) (hP : Pgms cs ps) (ef : ps.map fstD = nm.map .str) (h : Gv d) (nl : noLoc d = true) (S : List Dat) : callF L_is_step [worldO kk cs ps, d] S = .ok (.bl (stepW cs nm d)) S := by
  refine callF_ok ?_ (k_isstep (kk := kk) hc hP ef h []) (e := .bl (stepW cs nm d)) rfl S
  exact noLocs_of (st_all2 (worldO_nl hP) nl)
end Zd

namespace Zd
open PySem PySem.Spec PyProof.Rows L2 Zg
/-! ### the law's own look at a step -/
def formsD (l : List (Str × List Str)) : Dat := .dic (l.map fun q => .inr q.1) (l.map fun q => lstS q.2)
theorem lkK_L {w : Str} : ∀ l : List (Str × List Str), lkK (.inr w) (l.map fun q => .inr q.1) (l.map fun q => lstS q.2) = (lkT w l).map lstS
  | [] => rfl
  | (k, s) :: r => by
    rw [List.map_cons, List.map_cons]
    unfold lkK lkT
    by_cases e : k = w
    · subst e
      rw [if_pos (decide_eq_true rfl), if_pos (beq_self_eq_true k)]
      rfl
    · rw [if_neg (by rw [decide_eq_true_eq]; intro c; exact e (by injection c)), if_neg (by rw [beq_iff_eq]; exact e)]
      exact lkK_L r
theorem dic_inL {l : List (Str × List Str)} {w : Str} {S : List Dat} : dDIn true (.str w) (formsD l) S = .ok (.bl (!(lkT w l).isSome)) S := by
  show (pure (Dat.bl (true != (lkK (.inr w) (l.map fun q => .inr q.1) (l.map fun q => lstS q.2)).isSome)) : M Dat) S = _
  rw [lkK_L, Option.isSome_map, Bool.true_bne]
  rfl
theorem dic_getL {l : List (Str × List Str)} {w : Str} {s : List Str} {S : List Dat} (h : lkT w l = some s) : dDGet (formsD l) (.str w) S = .ok (lstS s) S := by
  show M.opt (lkK (.inr w) (l.map fun q => .inr q.1) (l.map fun q => lstS q.2)) S = _
  rw [lkK_L, h]
  rfl
theorem wp_din {S : List Dat} {ρ : Env} {n : Bool} {a b : Env → M Dat} {C : Dat → List Dat → Prop} (h : wp (a ρ) S fun x S1 => wp (b ρ) S1 fun y S2 => wp (dDIn n x y) S2 C) : wp (xDIn n a b ρ) S C := wp_bind (wp_mono h fun x S1 k => wp_bind k)
theorem wp_dget {S : List Dat} {ρ : Env} {a b : Env → M Dat} {C : Dat → List Dat → Prop} (h : wp (a ρ) S fun x S1 => wp (b ρ) S1 fun y S2 => wp (dDGet x y) S2 C) : wp (xDGet a b ρ) S C := wp_bind (wp_mono h fun x S1 k => wp_bind k)
theorem wp_eqI {S : List Dat} {i j : Int} {C : Dat → List Dat → Prop} (h : C (.bl (decide (i = j))) S) : wp (dEq (.int i) (.int j)) S C := by
  refine wp_of (a := .bl (decide (i = j))) ?_ h
  show (M.need (scal (V.int i) (V.int j)) >>= fun _ => pure (Dat.bl (decide (V.int i = V.int j)))) S = _
  have e : decide (V.int i = V.int j) = decide (i = j) := by
    by_cases c : i = j
    · subst c; simp
    · rw [decide_eq_false c, decide_eq_false fun z => c (by injection z)]
  rw [e]
  rfl
section
variable {kk : Ki × Ki} {cs nm : List Str} {ps : List Dat}
theorem k_lawstep {d : Dat} (hP : Pgms cs ps) (l3 : nm.length ≤ 3) (ef : ps.map fstD = nm.map .str) (h : Gv d) (S : List Dat) : L__law_is_step [wdict kk cs ps, d] S = .ok (.bl (stepW cs nm d)) S := by
  refine eq_wp (wp_run (wp_seq (wp_of (a := .nx [some (wdict kk cs ps), some d, some (formsD t_STEP_FORMS), none, none]) (S' := S) rfl ?_)))
  obtain ⟨h1, h2⟩ := h
  cases d with
  | tup ds =>
    cases ds with
    | nil =>
      refine wp_seq (wp_of (a := .rt (.bl false)) (S' := S) rfl ?_)
      exact wp_of rfl ⟨rfl, rfl⟩
    | cons x r =>
      have ⟨hl, hx⟩ := h2 _ rfl
      have h3 := (hx x List.mem_cons_self).k
      rw [List.length_cons] at hl
      refine wp_seq (wp_if (wp_or (wp_of (a := false) (S' := S) rfl ⟨nofun, fun _ => ?_⟩)))
      refine wp_or (wp_test (wp_op (wp_of (a := .int (x :: r : List Dat).length) (S' := S) rfl (wp_of (a := .int 0) (S' := S) rfl (wp_eqI ⟨_, rfl, fun h => ?_, fun _ => ?_⟩)))))
      · rw [List.length_cons, decide_eq_true_eq] at h
        omega
      refine wp_not (wp_test (wp_cb (wp_cons (wp_op (wp_of (a := .tup (x :: r)) (S' := S) rfl (wp_of (a := .int 0) (S' := S) rfl (wp_of (a := x) (S' := S) (ix0 S) ?_)))))))
      refine wp_cons (wp_of (a := .ty "str") (S' := S) rfl (wp_nil ?_))
      cases x with
      | str w =>
        have hi := fun y m => hx y (List.mem_cons_of_mem _ m)
        refine wp_of (a := .bl true) (S' := S) rfl ⟨_, rfl, nofun, fun _ => ?_⟩
        refine wp_of rfl ?_
        have get : ∀ (ρ : Env) (S : List Dat) (C : Dat → List Dat → Prop), ρ[1]? = some (some (.tup (.str w :: r))) → C (.str w) S → wp (xOp dIxT (xVar 1) (xC (.int 0)) ρ) S C := fun ρ S C e k => wp_op (wp_var e (wp_of (a := .int 0) (S' := S) rfl (wp_of (a := .str w) (S' := S) (ix0 S) k)))
        refine wp_seq (wp_if (wp_or (wp_test (wp_din (get _ S _ rfl ?_)))))
        refine wp_of (a := formsD t_STEP_FORMS) (S' := S) rfl (wp_of dic_inL ⟨_, rfl, fun h => ?_, fun h => ?_⟩)
        · refine ⟨fun _ => ?_, nofun⟩
          refine wp_of rfl (wp_of rfl ⟨?_, rfl⟩)
          rw [Bool.not_eq_true', Option.isSome_eq_false_iff, Option.isNone_iff_eq_none] at h
          unfold stepW
          simp only [h]
        · rw [Bool.not_eq_false', Option.isSome_iff_exists] at h
          obtain ⟨s, hw⟩ := h
          obtain ⟨p1, p2⟩ := step_pts hw
          refine wp_test (wp_op (wp_of (a := .int (.str w :: r : List Dat).length) (S' := S) rfl ?_))
          refine wp_op (wp_cb (wp_cons (wp_dget (wp_of (a := formsD t_STEP_FORMS) (S' := S) rfl (get _ S _ rfl (wp_of (dic_getL hw) (wp_nil ?_)))))))
          refine wp_of (a := .int (s.map Dat.str).length) (S' := S) rfl ?_
          refine wp_of (a := .int 1) (S' := S) rfl (w_add (wp_ne ⟨_, rfl, fun h => ?_, fun h => ?_⟩))
          · refine wp_of rfl (wp_of rfl ⟨?_, rfl⟩)
            rw [List.length_cons, List.length_map, Bool.not_eq_true', decide_eq_false_iff_not] at h
            unfold stepW formZ
            simp only [hw]
            rw [decide_eq_false (by omega), Bool.false_and]
          · refine wp_of rfl ?_
            rw [List.length_cons, List.length_map, Bool.not_eq_false', decide_eq_true_eq] at h
            refine wp_ret (wp_cb (wp_cons (wp_lc ?_)))
            refine wp_bind (wp_cons (wp_dget (wp_of (a := formsD t_STEP_FORMS) (S' := S) rfl (get _ S _ rfl (wp_of (dic_getL hw) ?_)))))
            refine wp_cons (wp_of (a := .tup r) (S' := S) ?_ (wp_nil ?_))
            · show (Out.ok (Dat.tup (cutD (.str w :: r) (some 1) none)) S : Out Dat) = _
              rw [cut1]
            · refine wp_of (a := zipD (s.map .str) r) (S' := S) rfl ⟨?_, ?_⟩
              · rw [zip_lenD, List.length_map]
                omega
              · refine wp_of (comp_zip (F := partW cs nm) fun c x hc hx => ?_) ?_
                · have k := k_fits (S := S) (kk := kk) hP l3 ef (p1 c hc) (hi x hx).k
                  show (calm (L__law_fits [wdict kk cs ps, .str c, x])) S = _
                  unfold calm
                  rw [k]
                · refine wp_nil (wp_of all_of ?_)
                  refine wp_of rfl ⟨?_, rfl⟩
                  unfold stepW formZ
                  simp only [hw]
                  rw [decide_eq_true (by omega), Bool.true_and]
      | _ => first | (refine wp_of (a := .bl false) (S' := S) rfl ⟨_, rfl, fun _ => ?_, nofun⟩; refine wp_of rfl ?_; exact wp_of rfl ⟨rfl, rfl⟩) | cases h3
  | _ => first | (refine wp_seq (wp_of (a := .rt (.bl false)) (S' := S) rfl ?_); exact wp_of rfl ⟨rfl, rfl⟩) | cases h1
theorem wdict_nl (h : Pgms cs ps) : noLoc (wdict kk cs ps) = true := noLocs_of (st_all4 (P := fun d => noLoc d = true) rfl rfl (st_strs (k := 0)).1 h.st.1)
theorem c_lawstep {d : Dat} (hP : Pgms cs ps) (l3 : nm.length ≤ 3) (ef : ps.map fstD = nm.map .str) (h : Gv d) (nl : noLoc d = true) (S : List Dat) : callF L__law_is_step [wdict kk cs ps, d] S = .ok (.bl (stepW cs nm d)) S := by
  refine callF_ok ?_ (k_lawstep (kk := kk) hP l3 ef h []) (e := .bl (stepW cs nm d)) rfl S
  exact noLocs_of (st_all2 (wdict_nl hP) nl)
theorem c_made (hk : kk ∈ kindsL) (hc : cs ∈ nsets) (hP : Pgms cs ps) (S : List Dat) : callF L__law_made [wdict kk cs ps] S = .ok (worldO kk cs ps) S := by
  have st : ∀ d, d ∈ [kindO kk.1, kindO kk.2, tupS cs, .tup ps] → St 8 d := st_all4 ⟨st_kind.1, fun S n hn => st_kind.2 S n (by omega)⟩ ⟨st_kind.1, fun S n hn => st_kind.2 S n (by omega)⟩ ⟨(st_strs (k := 0)).1, fun S n hn => (st_strs (k := 0)).2 S n (by omega)⟩ hP.st
  refine callF_ok ?_ (made_ok hk hc hP) ((st_obj st).2 _ _ (by decide)) S
  exact noLocs_of fun d hd => by rw [List.mem_singleton.mp hd]; exact wdict_nl hP
end
end Zd

namespace Zd
open PySem PySem.Spec PyProof.Rows L2 Zg
/-! ### the text of a value -/
structure Shw (n b : Nat) (y : PyData) : Prop where
  sh : y.showable = true
  dp : y.depth ≤ n
  ls : y.leavesShort 24 = true
  bk : y.bulk ≤ b
structure Shws (n b : Nat) (ys : List PyData) : Prop where
  sh : PyData.showableAll ys = true
  dp : PyData.depthAll ys ≤ n
  ls : PyData.leavesShortAll 24 ys = true
  bk : PyData.bulkAll ys ≤ b
theorem Shws.nil {n : Nat} : Shws n 0 [] := ⟨by simp only [PyData.showableAll], by simp only [PyData.depthAll, Nat.zero_le], by simp only [PyData.leavesShortAll], by simp only [PyData.bulkAll, Nat.le_refl]⟩
theorem Shws.cons {n b c : Nat} {y : PyData} {ys : List PyData} (h : Shw n b y) (k : Shws n c ys) : Shws n (b + 1 + c) (y :: ys) :=
  ⟨by simp only [PyData.showableAll, h.sh, k.sh, Bool.and_self], by simp only [PyData.depthAll]; exact Nat.max_le.mpr ⟨h.dp, k.dp⟩, by simp only [PyData.leavesShortAll, h.ls, k.ls, Bool.and_self], by simp only [PyData.bulkAll]; have := h.bk; have := k.bk; omega⟩
theorem Shws.tup {n b : Nat} {ys : List PyData} (h : Shws n b ys) : Shw (n + 1) b (.tuple ys) :=
  ⟨by simp only [PyData.showable]; exact h.sh, by simp only [PyData.depth]; have := h.dp; omega, by simp only [PyData.leavesShort]; exact h.ls, by simp only [PyData.bulk]; exact h.bk⟩
theorem Shws.lst {n b : Nat} {ys : List PyData} (h : Shws n b ys) : Shw (n + 1) b (.list ys) :=
  ⟨by simp only [PyData.showable]; exact h.sh, by simp only [PyData.depth]; have := h.dp; omega, by simp only [PyData.leavesShort]; exact h.ls, by simp only [PyData.bulk]; exact h.bk⟩
theorem Shw.le {n b m c : Nat} {y : PyData} (h : Shw n b y) (h1 : n ≤ m) (h2 : b ≤ c) : Shw m c y := ⟨h.sh, Nat.le_trans h.dp h1, h.ls, Nat.le_trans h.bk h2⟩
theorem Shws.le {n b m c : Nat} {y : List PyData} (h : Shws n b y) (h1 : n ≤ m) (h2 : b ≤ c) : Shws m c y := ⟨h.sh, Nat.le_trans h.dp h1, h.ls, Nat.le_trans h.bk h2⟩
theorem shw_non : Shw 0 20 .none := ⟨by simp only [PyData.showable], by simp only [PyData.depth, Nat.le_refl], by simp only [PyData.leavesShort], by simp only [PyData.bulk]; decide⟩
theorem shw_bl {b : Bool} : Shw 0 20 (.bool b) := ⟨by simp only [PyData.showable], by simp only [PyData.depth, Nat.le_refl], by simp only [PyData.leavesShort], by simp only [PyData.bulk]; decide⟩
theorem log_lt {i : Int} (h : -(10 ^ 20) < i ∧ i < 10 ^ 20) : i.natAbs.log2 < 1920 := by
  by_cases z : i.natAbs = 0
  · rw [z]; decide
  · rw [Nat.log2_lt z]
    have : i.natAbs ≤ 10 ^ 20 := by omega
    exact Nat.lt_of_le_of_lt this (by decide +kernel)
theorem shw_int {i : Int} (h : -(10 ^ 20) < i ∧ i < 10 ^ 20) : Shw 0 20 (.int i) := by
  refine ⟨by simp only [PyData.showable]; exact decide_eq_true (log_lt h), by simp only [PyData.depth, Nat.le_refl], ?_, by simp only [PyData.bulk]; decide⟩
  simp only [PyData.leavesShort, PyData.shown]
  have := PySem.int_text_length_le10 (a := i) (k := 20) (by decide) (by omega)
  refine decide_eq_true ?_
  rw [PySem.ofString_length]
  omega
def strB (s : Str) : Bool := (s.cps.toList.all fun c => decide (c < 16 ^ 8)) && decide (s.cps.size ≤ 20)
theorem shw_str {s : Str} (h : strB s = true) : Shw 0 20 (.str s) := by
  unfold strB at h
  rw [Bool.and_eq_true, decide_eq_true_eq] at h
  exact ⟨by simp only [PyData.showable], by simp only [PyData.depth, Nat.le_refl], by simp only [PyData.leavesShort]; exact h.1, by simp only [PyData.bulk]; exact h.2⟩
/-! ### what is drawn as a value -/
def WS : List Str := NM ++ [("add" : Str), ("drop" : Str), ("up" : Str), ("no up" : Str), ("down" : Str), ("no down" : Str), ("fill" : Str), ("fill back" : Str), ("release" : Str), ("withdraw" : Str), ("grow" : Str), ("purge" : Str)] ++ [("" : Str), ("id" : Str), ("x" : Str), ("nobody" : Str), ("anew" : Str), ("cut" : Str), ("narrow" : Str), ("both" : Str), ("Add" : Str), ("empty" : Str), ("refuse" : Str), ("wide" : Str)]
theorem str_ok : ∀ s ∈ WS, strB s = true ∧ okS s := by decide +kernel
def lg (d : Dat) : Prop := (∃ s : Str, d = .str s ∧ s ∈ WS) ∨ (∃ i : Int, d = .int i ∧ -(10 ^ 20) < i ∧ i < 10 ^ 20) ∨ d = .non ∨ ∃ b, d = .bl b
def Gd : Nat → Dat → Prop
  | 0, d => lg d
  | n + 1, d => lg d ∨ ∃ ds, (d = .tup ds ∨ d = .lst ds) ∧ ds.length ≤ 8 ∧ ∀ x ∈ ds, Gd n x
theorem Gd.lf : ∀ {n : Nat} {d : Dat}, lg d → Gd n d
  | 0, _, h => h
  | _ + 1, _, h => .inl h
theorem Gd.up : ∀ {n : Nat} {d : Dat}, Gd n d → Gd (n + 1) d
  | 0, _, h => .inl h
  | n + 1, _, .inl h => .inl h
  | n + 1, _, .inr ⟨ds, e, l, h⟩ => .inr ⟨ds, e, l, fun x m => (h x m).up⟩
theorem Gd.tup {n : Nat} {ds : List Dat} (l : ds.length ≤ 8) (h : ∀ x ∈ ds, Gd n x) : Gd (n + 1) (.tup ds) := .inr ⟨ds, .inl rfl, l, h⟩
theorem Gd.lst {n : Nat} {ds : List Dat} (l : ds.length ≤ 8) (h : ∀ x ∈ ds, Gd n x) : Gd (n + 1) (.lst ds) := .inr ⟨ds, .inr rfl, l, h⟩
def bb : Nat → Nat
  | 0 => 20
  | n + 1 => 8 * (bb n + 1)
theorem bb_le : ∀ n, bb n ≤ bb (n + 1)
  | 0 => by decide
  | n + 1 => by
    have := bb_le n
    show 8 * (bb n + 1) ≤ 8 * (bb (n + 1) + 1)
    omega
theorem bb20 : ∀ n, 20 ≤ bb n
  | 0 => Nat.le_refl _
  | n + 1 => Nat.le_trans (bb20 n) (bb_le n)
structure Swy (n : Nat) (y : PyData) : Prop where
  s : Shw (n + 1) (bb n) y
  d : y.hasDict = false
  c : y.canLay0 = true
abbrev Sw (n : Nat) (d : Dat) : Prop := ∃ y, toPy d = some y ∧ Swy n y
theorem lg_s {n : Nat} {d : Dat} (h : lg d) : Sw n d := by
  rcases h with ⟨s, rfl, m⟩ | ⟨i, rfl, l⟩ | rfl | ⟨b, rfl⟩
  · exact ⟨.str s, rfl, (shw_str (str_ok s m).1).le (Nat.zero_le _) (bb20 n), rfl, (str_ok s m).2⟩
  · exact ⟨.int i, rfl, (shw_int l).le (Nat.zero_le _) (bb20 n), rfl, rfl⟩
  · exact ⟨.none, rfl, shw_non.le (Nat.zero_le _) (bb20 n), rfl, rfl⟩
  · exact ⟨.bool b, rfl, shw_bl.le (Nat.zero_le _) (bb20 n), rfl, rfl⟩
theorem sw_all {n : Nat} : ∀ (ds : List Dat), (∀ x ∈ ds, Sw n x) → ∃ ys, toPys ds = some ys ∧ Shws (n + 1) (ds.length * (bb n + 1)) ys ∧ PyData.hasDictAll ys = false ∧ PyData.canLayAll0 ys = true
  | [], _ => ⟨[], rfl, Shws.nil.le (Nat.le_refl _) (Nat.zero_le _), rfl, rfl⟩
  | d :: ds, h => by
    obtain ⟨y, e, s, k, c⟩ := h d List.mem_cons_self
    obtain ⟨ys, es, ss, ks, cs⟩ := sw_all ds fun x m => h x (List.mem_cons_of_mem _ m)
    refine ⟨y :: ys, ?_, (Shws.cons s ss).le (Nat.le_refl _) ?_, ?_, ?_⟩
    · rw [toPys, e, es]; rfl
    · rw [List.length_cons, Nat.add_mul]; omega
    · simp only [PyData.hasDictAll, k, ks, Bool.or_self]
    · simp only [PyData.canLayAll0, c, cs, Bool.and_self]
theorem len8 {l n : Nat} (h : l ≤ 8) : l * (bb n + 1) ≤ bb (n + 1) := Nat.mul_le_mul_right _ h
theorem gd_s : ∀ {n : Nat} {d : Dat}, Gd n d → Sw n d
  | 0, _, h => lg_s h
  | n + 1, _, .inl h => lg_s h
  | n + 1, _, .inr ⟨ds, e, l, h⟩ => by
    obtain ⟨ys, es, s, k, c⟩ := sw_all ds fun x m => gd_s (h x m)
    rcases e with rfl | rfl
    · exact ⟨.tuple ys, by rw [toPy, es]; rfl, s.tup.le (Nat.le_refl _) (len8 l), by simp only [PyData.hasDict]; exact k, by simp only [PyData.canLay0]; exact c⟩
    · exact ⟨.list ys, by rw [toPy, es]; rfl, s.lst.le (Nat.le_refl _) (len8 l), by simp only [PyData.hasDict]; exact k, by simp only [PyData.canLay0]; exact c⟩
theorem bb4 : ∀ n, n ≤ 4 → bb n ≤ 86600
  | 0, _ => by decide
  | 1, _ => by decide
  | 2, _ => by decide
  | 3, _ => by decide
  | 4, _ => by decide
  | n + 5, h => by omega
theorem shown_le {n : Nat} {y : PyData} (h : Shw (n + 1) (bb n) y) (hn : n ≤ 4) : y.shown.length ≤ sizeLine := by
  have l := PyData.shown_le_bulk 24 (by decide) y h.ls
  have := bb4 n hn
  have := h.bk
  rw [sizeLine_eq]
  omega
theorem okShow_of {n : Nat} {y : PyData} (h : Shw (n + 1) (bb n) y) (hn : n ≤ 4) (d : y.hasDict = false) : okShow y = true := by
  have e := shown_le h hn
  have s := h.sh
  have dp := h.dp
  unfold okShow
  rw [s, d, decide_eq_true (show y.depth ≤ 64 by omega), decide_eq_true e]
  cases y with
  | int i => simp only [PyData.showable] at s; simp only [s]; rfl
  | _ => rfl
theorem gd_repr {n : Nat} {d : Dat} (h : Gd n d) (hn : n ≤ 4) : ∃ z : Str, ∀ S, dRepr2 [d] S = .ok (.str z) S := by
  obtain ⟨y, e, s, k, _⟩ := gd_s h
  refine ⟨y.shown, fun S => ?_⟩
  unfold dRepr2
  simp only [e, okShow_of s hn k]
  rfl
theorem dic_repr (S : List Dat) : dRepr2 [.dic [] []] S = .ok (.str (PyData.dict []).shown) S := by
  have o : okShowD (.dict []) = true := by decide +kernel
  show (M.need (okShowD (.dict [])) >>= fun _ => pure (Dat.str (PyData.dict []).shown) : M Dat) S = _
  rw [o]
  rfl
theorem gd_nl : ∀ {n : Nat} {d : Dat}, Gd n d → noLoc d = true := fun {n} => by
  have lgn : ∀ d, lg d → noLoc d = true := fun d h => by rcases h with ⟨s, rfl, _⟩ | ⟨i, rfl, _⟩ | rfl | ⟨b, rfl⟩ <;> rfl
  induction n with
  | zero => exact fun {d} h => lgn d h
  | succ n ih =>
    intro d h
    rcases h with h | ⟨ds, e, l, h⟩
    · exact lgn d h
    · have := noLocs_of fun x m => ih (h x m)
      rcases e with rfl | rfl
      · rw [noLoc]; exact this
      · rw [noLoc]; exact this
theorem gd_dat {n : Nat} {d : Dat} (h : Gd n d) : dat d = true := by
  have lgn : ∀ d, lg d → dat d = true := fun d h => by rcases h with ⟨s, rfl, _⟩ | ⟨i, rfl, _⟩ | rfl | ⟨b, rfl⟩ <;> rfl
  cases n with
  | zero => exact lgn d h
  | succ n =>
    rcases h with h | ⟨ds, e, _⟩
    · exact lgn d h
    · rcases e with rfl | rfl <;> rfl
theorem eqv_isS {d : Dat} {y : PyData} {m : Str} (h : dat d = true) (e : toPy d = some y) : PyData.eqv (.str m) y = isS d [m] := by
  cases d with
  | str s =>
    cases e
    simp only [PyData.eqv]
    show _ = (m == s || false)
    rw [Bool.or_false]
  | int i => cases e; simp only [PyData.eqv]; rfl
  | bl b => cases e; simp only [PyData.eqv]; rfl
  | non => cases e; simp only [PyData.eqv]; rfl
  | tup ds =>
    rw [toPy] at e
    obtain ⟨ys, _, rfl⟩ := Option.map_eq_some_iff.mp e
    simp only [PyData.eqv]; rfl
  | lst ds =>
    rw [toPy] at e
    obtain ⟨ys, _, rfl⟩ := Option.map_eq_some_iff.mp e
    simp only [PyData.eqv]; rfl
  | _ => first | (cases h; done) | (cases e; done)
theorem gd_pv {n : Nat} {d : Dat} (h : Gd n d) (hn : n ≤ 4) : Pv d := by
  refine ⟨gd_dat h, fun m S om => ?_⟩
  obtain ⟨y, e, s, _, c⟩ := gd_s h
  unfold dEqD
  rw [e]
  have sh : shp y = true := by
    unfold shp SeqAt.shaped
    have := s.dp
    rw [c, decide_eq_true (show y.depth ≤ 64 by omega)] <;> rfl
  have sm : shp (.str m) = true := by
    unfold shp SeqAt.shaped
    rw [show (PyData.str m).canLay0 = true from om] <;> rfl
  show ((M.need (shp (.str m) && shp y) >>= fun _ => pure (Dat.bl (false != PyData.eqv (.str m) y))) : M Dat) S = _
  rw [sm, sh, eqv_isS (gd_dat h) e, fb]
  rfl
/-- a value of the law -/
def Mv (d : Dat) : Prop := Gd 2 d ∨ d = .dic [] []
theorem Mv.gv {d : Dat} (h : Mv d) : Gv d := by
  rcases h with h | rfl
  · refine ⟨gd_dat h, fun ds e => ?_⟩
    subst e
    rcases h with h | ⟨es, e, l, h⟩
    · rcases h with ⟨s, e, _⟩ | ⟨i, e, _⟩ | e | ⟨b, e⟩ <;> cases e
    · rcases e with e | e
      · cases e
        exact ⟨by omega, fun x m => gd_pv (h x m) (by decide)⟩
      · cases e
  · exact ⟨rfl, nofun⟩
theorem Mv.nl {d : Dat} (h : Mv d) : noLoc d = true := by
  rcases h with h | rfl
  · exact gd_nl h
  · rfl
theorem Mv.repr {d : Dat} (h : Mv d) : ∃ z : Str, ∀ S, dRepr2 [d] S = .ok (.str z) S := by
  rcases h with h | rfl
  · exact gd_repr h (by decide)
  · exact ⟨_, dic_repr⟩
end Zd

namespace Zd
open PySem PySem.Spec PyProof.Rows L2 Zg
/-! ### odd values -/
/-- a step as it is drawn -/
def StepT (d : Dat) : Prop := ∃ ds, d = .tup ds ∧ 2 ≤ ds.length ∧ ds.length ≤ 4 ∧ ∀ x ∈ ds, lg x
theorem lg_s2 {s : Str} (h : s ∈ WS) : lg (.str s) := .inl ⟨s, rfl, h⟩
theorem words_ws : (∀ s, s ∈ NM → s ∈ WS) ∧ (∀ s, s ∈ (["refuse", "cut", "empty"] : List Str) → s ∈ WS) ∧ (∀ s, s ∈ (["anew", "empty"] : List Str) → s ∈ WS) ∧ (∀ s, s ∈ ([("add" : Str), ("drop" : Str), ("up" : Str), ("no up" : Str), ("down" : Str), ("no down" : Str), ("fill" : Str), ("fill back" : Str), ("release" : Str), ("withdraw" : Str), ("grow" : Str), ("purge" : Str), ("narrow" : Str), ("wide" : Str)] : List Str) → s ∈ WS) := by decide +kernel
theorem all_lg {ds : List Dat} (h : ∀ x ∈ ds, lg x) : ∀ x ∈ ds, lg x := h
theorem menu_st {kk : Ki × Ki} {cs nm : List Str} {d : Dat} (hc : cs ∈ nsets) (hn : nm ∈ nsets) (h : menuM kk cs nm d) : StepT d := by
  obtain ⟨w1, w2, w3, w4⟩ := words_ws
  have W : ∀ s, s ∈ ([("add" : Str), ("drop" : Str), ("up" : Str), ("no up" : Str), ("down" : Str), ("no down" : Str), ("fill" : Str), ("fill back" : Str), ("release" : Str), ("withdraw" : Str), ("grow" : Str), ("purge" : Str), ("narrow" : Str), ("wide" : Str)] : List Str) → lg (.str s) := fun s m => lg_s2 (w4 s m)
  have t2 : ∀ a b : Dat, lg a → lg b → StepT (.tup [a, b]) := fun a b ha hb => ⟨_, rfl, (by decide : 2 ≤ 2), (by decide : 2 ≤ 4), st_all2 ha hb⟩
  have t3 : ∀ a b c : Dat, lg a → lg b → lg c → StepT (.tup [a, b, c]) := fun a b c ha hb hc => ⟨_, rfl, (by decide : 2 ≤ 3), (by decide : 3 ≤ 4), st_all3 ha hb hc⟩
  have t4 : ∀ a b c e : Dat, lg a → lg b → lg c → lg e → StepT (.tup [a, b, c, e]) := fun a b c e ha hb hc he => ⟨_, rfl, (by decide : 2 ≤ 4), (by decide : 4 ≤ 4), st_all4 ha hb hc he⟩
  rcases h with ⟨c, hcm, rule, manner, hr, hm, hd⟩ | ⟨n, hnm, hd⟩ | ⟨i, i1, i2, hd⟩
  · have lc : lg (.str c) := lg_s2 (w1 c (nsets_NM cs hc c hcm))
    have lr : lg (.str rule) := lg_s2 (w2 rule hr)
    have lm : lg (.str manner) := lg_s2 (w3 manner hm)
    simp only [List.mem_cons, List.not_mem_nil, or_false] at hd
    rcases hd with rfl | rfl | rfl | rfl | rfl | rfl | rfl | rfl | rfl
    · exact t2 _ _ (W _ (by decide +kernel)) lc
    · exact t2 _ _ (W _ (by decide +kernel)) lc
    · exact t3 _ _ _ (W _ (by decide +kernel)) lc lr
    · exact t3 _ _ _ (W _ (by decide +kernel)) lc lm
    · exact t2 _ _ (W _ (by decide +kernel)) lc
    · exact t2 _ _ (W _ (by decide +kernel)) lc
    · exact t4 _ _ _ _ (W _ (by decide +kernel)) lc lm lr
    · exact t3 _ _ _ (W _ (by decide +kernel)) lc (W _ (by decide +kernel))
    · exact t3 _ _ _ (W _ (by decide +kernel)) lc (W _ (by decide +kernel))
  · have lc : lg (.str n) := lg_s2 (w1 n (nsets_NM nm hn n hnm))
    simp only [List.mem_cons, List.not_mem_nil, or_false] at hd
    rcases hd with rfl | rfl
    · exact t2 _ _ (W _ (by decide +kernel)) lc
    · exact t2 _ _ (W _ (by decide +kernel)) lc
  · have li : lg (.int i) := .inr (.inl ⟨i, rfl, i1, i2⟩)
    simp only [List.mem_cons, List.not_mem_nil, or_false] at hd
    rcases hd with rfl | rfl
    · exact t2 _ _ (W _ (by decide +kernel)) li
    · exact t2 _ _ (W _ (by decide +kernel)) li
theorem cut_mem {ds : List Dat} {a b : Option Int} {x : Dat} (h : x ∈ cutD ds a b) : x ∈ ds := List.mem_of_mem_drop (List.mem_of_mem_take h)
theorem cut_le {ds : List Dat} {a b : Option Int} : (cutD ds a b).length ≤ ds.length := by
  unfold cutD
  rw [List.length_take, List.length_drop]
  omega
theorem cut_to {ds : List Dat} {i : Nat} (h : i < ds.length) : cutD ds none (some (i : Int)) = ds.take i := by
  unfold cutD
  rw [HT.sIx_none, HT.sIx_nat, List.drop_zero, Nat.sub_zero, Nat.min_eq_left (by omega)]
theorem cut_from {ds : List Dat} {i : Nat} (h : i < ds.length) : cutD ds (some ((i : Int) + 1)) none = ds.drop (i + 1) := by
  unfold cutD
  rw [HT.sIx_none, show ((i : Int) + 1) = ((i + 1 : Nat) : Int) from rfl, HT.sIx_nat, Nat.min_eq_left (by omega)]
  exact List.take_of_length_le (by rw [List.length_drop]; omega)
theorem ixAt {n : Nat} {x : Dat} {r : List Dat} (h : r[n]? = some x) (S : List Dat) : dIxT (.tup r) (.int n) S = .ok x S := by
  show M.opt (atI r n) S = _
  have l : n < r.length := (List.getElem?_eq_some_iff.mp h).1
  have e : atI r (n : Int) = some x := by
    unfold atI ixN
    have : (n : Int) < (r.length : Int) := by omega
    simp [this, h]
  rw [e]
  rfl
abbrev oddA (ds : List Dat) : List Dat := [.non, .bl true, .int 0, .int (-1), .str "", .str "id", .tup [], .lst [], .dic [] [], .tup [.tup []], .int (10 ^ 15), .lst ds, .tup (ds ++ [.int 0]), .tup (cutD ds none (some (-1))), .tup [.tup ds]]
abbrev oddP (ds : List Dat) : List Dat := [.non, .bl true, .int 3, .str "x", .str "", .tup [], .lst [], .tup ds]
theorem lg_gd {ds : List Dat} (h : ∀ x ∈ ds, lg x) (n : Nat) : ∀ x ∈ ds, Gd n x := fun x m => Gd.lf (h x m)
theorem oddA_mv {ds : List Dat} (l : ds.length ≤ 4) (h : ∀ x ∈ ds, lg x) {x : Dat} (m : x ∈ oddA ds) : Mv x := by
  have it : ∀ i : Int, -(10 ^ 20) < i ∧ i < 10 ^ 20 → Mv (.int i) := fun i m => .inl (Gd.lf (.inr (.inl ⟨i, rfl, m⟩)))
  have st : ∀ s : Str, s ∈ WS → Mv (.str s) := fun s m => .inl (Gd.lf (lg_s2 m))
  simp only [oddA, List.mem_cons, List.not_mem_nil, or_false] at m
  rcases m with rfl | rfl | rfl | rfl | rfl | rfl | rfl | rfl | rfl | rfl | rfl | rfl | rfl | rfl | rfl
  · exact .inl (Gd.lf (.inr (.inr (.inl rfl))))
  · exact .inl (Gd.lf (.inr (.inr (.inr ⟨_, rfl⟩))))
  · exact it _ (by decide)
  · exact it _ (by decide)
  · exact st _ (by decide +kernel)
  · exact st _ (by decide +kernel)
  · exact .inl (Gd.tup (by decide) nofun)
  · exact .inl (Gd.lst (by decide) nofun)
  · exact .inr rfl
  · exact .inl (Gd.tup (by decide) fun x m => by rw [List.mem_singleton.mp m]; exact Gd.tup (by decide) nofun)
  · exact it _ (by decide)
  · exact .inl (Gd.lst (by omega) (lg_gd h 1))
  · refine .inl (Gd.tup (by rw [List.length_append]; show ds.length + 1 ≤ 8; omega) fun x m => ?_)
    rcases List.mem_append.mp m with m | m
    · exact lg_gd h 1 x m
    · rw [List.mem_singleton.mp m]
      exact Gd.lf (.inr (.inl ⟨0, rfl, by decide⟩))
  · exact .inl (Gd.tup (Nat.le_trans cut_le (by omega)) fun x m => lg_gd h 1 x (cut_mem m))
  · exact .inl (Gd.tup (show 1 ≤ 8 by decide) fun x m => by rw [List.mem_singleton.mp m]; exact Gd.tup (by omega) (lg_gd h 0))
theorem oddP_gd {ds : List Dat} (l : ds.length ≤ 4) (h : ∀ x ∈ ds, lg x) {x : Dat} (m : x ∈ oddP ds) : Gd 1 x := by
  have st : ∀ s : Str, s ∈ WS → Gd 1 (.str s) := fun s m => Gd.lf (lg_s2 m)
  simp only [oddP, List.mem_cons, List.not_mem_nil, or_false] at m
  rcases m with rfl | rfl | rfl | rfl | rfl | rfl | rfl | rfl
  · exact Gd.lf (.inr (.inr (.inl rfl)))
  · exact Gd.lf (.inr (.inr (.inr ⟨_, rfl⟩)))
  · exact Gd.lf (.inr (.inl ⟨_, rfl, by decide⟩))
  · exact st _ (by decide +kernel)
  · exact st _ (by decide +kernel)
  · exact Gd.tup (by decide) nofun
  · exact Gd.lst (by decide) nofun
  · exact Gd.tup (by omega) (lg_gd h 0)
def bendA (ds : List Dat) (i : Nat) (p : Dat) : Dat := .tup (ds.take i ++ [p] ++ ds.drop (i + 1))
theorem bendA_mv {ds : List Dat} {i : Nat} {p : Dat} (l : ds.length ≤ 4) (h : ∀ x ∈ ds, lg x) (hp : Gd 1 p) : Mv (bendA ds i p) := by
  refine .inl (Gd.tup ?_ fun x m => ?_)
  · rw [List.length_append, List.length_append, List.length_take, List.length_drop]
    show _ + 1 + _ ≤ 8
    omega
  · rcases List.mem_append.mp m with m | m
    · rcases List.mem_append.mp m with m | m
      · exact lg_gd h 1 x (List.mem_of_mem_take m)
      · rw [List.mem_singleton.mp m]
        exact hp
    · exact lg_gd h 1 x (List.mem_of_mem_drop m)
abbrev oddT : Env → M Dat := (xLst (xCons (xC .non) (xCons (xC (.bl true)) (xCons (xC (.int 0)) (xCons (xUn dNeg (xC (.int 1))) (xCons (xC (.str "")) (xCons (xC (.str "id")) (xCons (xTup xNil) (xCons (xLst xNil) (xCons xDic0 (xCons (xTup (xCons (xTup xNil) xNil)) (xCons (xOp dPow (xC (.int 10)) (xC (.int 15))) (xCons (xCB dList (xCons (xVar 1) xNil)) (xCons (xOp dCatT (xVar 1) (xTup (xCons (xC (.int 0)) xNil))) (xCons (jSl dCutT (xVar 1) oNone (oSome (xUn dNeg (xC (.int 1))))) (xCons (xTup (xCons (xVar 1) xNil)) xNil))))))))))))))))
section
variable {S : List Dat}
theorem odd_at {e0 e2 e3 e4 : Option Dat} {ds : List Dat} (l2 : 2 ≤ ds.length) (l4 : ds.length ≤ 4) : oddT [e0, some (.tup ds), e2, e3, e4] S = .ok (.lst (oddA ds)) S := by
  match ds, l2, l4 with
  | [a, b], _, _ => kernel_rfl
  | [a, b, c], _, _ => kernel_rfl
  | [a, b, c, d], _, _ => kernel_rfl
theorem tup_ne {n : Nat} {ds : List Dat} (l : 0 < ds.length) (h : ∀ d, d ∈ ds → Gd n d) (l8 : ds.length ≤ 8) (hn : n ≤ 3) : dEqD true (.tup ds) (.tup []) S = .ok (.bl true) S := by
  obtain ⟨ys, e, s, k, c⟩ := sw_all ds fun x m => gd_s (h x m)
  have e1 : toPy (.tup ds) = some (.tuple ys) := by rw [toPy, e] <;> rfl
  have e0 : toPy (.tup []) = some (.tuple []) := by
    rw [toPy, toPys] <;> rfl
  have nl : ys.length = ds.length := by
    have : ∀ (ds : List Dat) (ys : List PyData), toPys ds = some ys → ys.length = ds.length := fun ds => by
      induction ds with
      | nil => intro ys e; rw [toPys] at e; cases e; rfl
      | cons d r ih =>
        intro ys e
        rw [toPys] at e
        cases a : toPy d with
        | none => rw [a] at e; cases e
        | some y =>
          rw [a] at e
          cases b : toPys r with
          | none => rw [b] at e; cases e
          | some zs => rw [b] at e; cases e; rw [List.length_cons, List.length_cons, ih zs b]
    exact this ds ys e
  unfold dEqD
  rw [e1, e0]
  have sh : shp (.tuple ys) = true := by
    unfold shp SeqAt.shaped
    have := s.dp
    have dp : (PyData.tuple ys).depth = PyData.depthAll ys + 1 := by rw [PyData.depth]
    rw [show (PyData.tuple ys).canLay0 = true by simp only [PyData.canLay0]; exact c, decide_eq_true (show (PyData.tuple ys).depth ≤ 64 by omega)] <;> rfl
  show ((M.need (shp (.tuple ys) && shp (.tuple [])) >>= fun _ => pure (.bl (true != PyData.eqv (.tuple ys) (.tuple [])))) : M Dat) S = _
  rw [sh]
  match ys, nl with
  | [], n => exact absurd n (by show ¬ 0 = ds.length; omega)
  | y :: ys, _ =>
    have ev : PyData.eqv (.tuple (y :: ys)) (.tuple []) = false := by
      rw [PyData.eqv, PyData.eqvAll]
    rw [ev]
    rfl
end
section
variable {ℓ : Nat}
theorem w_odd {k : Nat} {S : List Dat} {d : Dat} {C : Dat → List Dat → Prop} (h : Pot ℓ (k + 2) S) (o : StepT d) (q : ∀ x S', Mv x → Pot ℓ k S' → FrS ℓ S S' → C x S') : wp (L__law_odd [.loc ℓ, d]) S C := by
  obtain ⟨ds, rfl, l2, l4, hl⟩ := o
  refine wp_run (wp_seq (wp_asg (wp_of (odd_at (S := S) l2 l4) ?_)))
  refine ⟨[some (.loc ℓ), some (.tup ds), some (.lst (oddA ds)), none, none], rfl, ?_⟩
  dsimp only
  refine wp_seq (wp_if (wp_test (wp_op (wp_of (a := .tup ds) (S' := S) rfl (wp_of (a := .tup []) (S' := S) rfl ?_)))))
  refine wp_of (tup_ne (n := 0) (by omega) (lg_gd hl 0) (by omega) (by decide)) ⟨_, rfl, fun _ => ?_, nofun⟩
  refine wp_seq (wp_asg (wp_call (wp_cons (wp_of (a := .loc ℓ) (S' := S) rfl (wp_cons (wp_of (a := .int (ds.length : Int)) (S' := S) rfl (wp_nil ?_)))))))
  have h : Pot ℓ (k + 1 + 1) S := h
  refine w_take h (by omega) (by omega) fun r S1 r0 r1 hp f1 => ?_
  obtain ⟨i, rfl⟩ := Int.eq_ofNat_of_zero_le r0
  have il : i < ds.length := by omega
  refine ⟨[some (.loc ℓ), some (.tup ds), some (.lst (oddA ds)), some (.int (i : Int)), none], rfl, ?_⟩
  dsimp only
  refine wp_asg (wp_op (wp_of (a := .lst (oddA ds)) (S' := S1) rfl ?_))
  refine wp_lc (wp_of (a := oddP ds) (S' := S1) rfl ⟨(by decide : 8 ≤ 100000), ?_⟩)
  refine wp_of (comp_at (f := bendA ds i) (i := 4) fun p _ => ?_) ?_
  · show xOp dCatT (xOp dCatT (jSl dCutT (xVar 1) oNone (oSome (xVar 3))) (xTup (xCons (xVar 4) xNil))) (jSl dCutT (xVar 1) (oSome (xOp dAdd (xVar 3) (xC (.int 1)))) oNone) [some (.loc ℓ), some (.tup ds), some (.lst (oddA ds)), some (.int (i : Int)), some p] S1 = _
    have a1 : xOp dCatT (jSl dCutT (xVar 1) oNone (oSome (xVar 3))) (xTup (xCons (xVar 4) xNil)) [some (.loc ℓ), some (.tup ds), some (.lst (oddA ds)), some (.int (i : Int)), some p] S1 = .ok (.tup (ds.take i ++ [p])) S1 := by
      refine op_at (x := .tup (ds.take i)) (y := .tup [p]) ?_ rfl ?_
      · show (Out.ok (Dat.tup (cutD ds none (some (i : Int)))) S1 : Out Dat) = _
        rw [cut_to il]
      · show (M.need (decide ((ds.take i).length + 1 ≤ 100000)) >>= fun _ => pure (Dat.tup (ds.take i ++ [p])) : M Dat) S1 = _
        rw [decide_eq_true (by rw [List.length_take]; omega)]
        rfl
    refine op_at a1 (y := .tup (ds.drop (i + 1))) ?_ ?_
    · show (Out.ok (Dat.tup (cutD ds (some ((i : Int) + 1)) none)) S1 : Out Dat) = _
      rw [cut_from il]
    · show (M.need (decide ((ds.take i ++ [p]).length + (ds.drop (i + 1)).length ≤ 100000)) >>= fun _ => pure (Dat.tup (ds.take i ++ [p] ++ ds.drop (i + 1))) : M Dat) S1 = _
      rw [decide_eq_true (by rw [List.length_append, List.length_take, List.length_drop]; show _ + 1 + _ ≤ _; omega)]
      rfl
  · refine wp_of (a := .lst (oddA ds ++ (oddP ds).map (bendA ds i))) (S' := S1) rfl ?_
    refine ⟨_, rfl, ?_⟩
    dsimp only
    refine wp_ret (wp_call (wp_cons (wp_of (a := .loc ℓ) (S' := S1) rfl (wp_cons (wp_of (a := .lst (oddA ds ++ (oddP ds).map (bendA ds i))) (S' := S1) rfl (wp_nil ?_))))))
    refine w_of hp (by show 0 < 23; decide) (by show 23 ≤ 1000; decide) fun x S2 m hp2 f2 => ?_
    refine wp_pure (q x S2 ?_ hp2 (f1.trans f2))
    rcases List.mem_append.mp m with m | m
    · exact oddA_mv l4 hl m
    · obtain ⟨p, mp, rfl⟩ := List.mem_map.mp m
      exact bendA_mv l4 hl (oddP_gd l4 hl mp)
end
end Zd

namespace Zd
open PySem PySem.Spec PyProof.Rows L2 Zg
abbrev wordsL : List Str := [("add" : Str), ("drop" : Str), ("up" : Str), ("no up" : Str), ("down" : Str), ("no down" : Str), ("fill" : Str), ("fill back" : Str), ("release" : Str), ("withdraw" : Str), ("grow" : Str)]
abbrev partsL : List Dat := [.str "id", .str "nobody", .str "anew", .str "cut", .str "narrow", .str "both", .int 5, .int (-3), .bl true, .non, .str "Add", .tup [], .int (10 ^ 17)]
theorem partsL_gd {x y : Dat} (hy : lg y) (m : x ∈ partsL ++ [y]) : Gd 1 x := by
  have st : ∀ s : Str, s ∈ WS → Gd 1 (.str s) := fun s m => Gd.lf (lg_s2 m)
  have it : ∀ i : Int, -(10 ^ 20) < i ∧ i < 10 ^ 20 → Gd 1 (.int i) := fun i m => Gd.lf (.inr (.inl ⟨i, rfl, m⟩))
  rcases List.mem_append.mp m with m | m
  · simp only [partsL, List.mem_cons, List.not_mem_nil, or_false] at m
    rcases m with rfl | rfl | rfl | rfl | rfl | rfl | rfl | rfl | rfl | rfl | rfl | rfl | rfl
    · exact st _ (by decide +kernel)
    · exact st _ (by decide +kernel)
    · exact st _ (by decide +kernel)
    · exact st _ (by decide +kernel)
    · exact st _ (by decide +kernel)
    · exact st _ (by decide +kernel)
    · exact it _ (by decide)
    · exact it _ (by decide)
    · exact Gd.lf (.inr (.inr (.inr ⟨_, rfl⟩)))
    · exact Gd.lf (.inr (.inr (.inl rfl)))
    · exact st _ (by decide +kernel)
    · exact Gd.tup (by decide) nofun
    · exact it _ (by decide)
  · rw [List.mem_singleton.mp m]
    exact Gd.lf hy
theorem ixLast {ds : List Dat} (l2 : 2 ≤ ds.length) (l4 : ds.length ≤ 4) : ∃ x, x ∈ ds ∧ ∀ S, dIxT (.tup ds) (.int (-1)) S = .ok x S := by
  match ds, l2, l4 with
  | [a, b], _, _ => exact ⟨b, by simp, fun S => rfl⟩
  | [a, b, c], _, _ => exact ⟨c, by simp, fun S => rfl⟩
  | [a, b, c, d], _, _ => exact ⟨d, by simp, fun S => rfl⟩
theorem ixOne {ds : List Dat} (l2 : 2 ≤ ds.length) : ∃ x, x ∈ ds ∧ ∀ S, dIxT (.tup ds) (.int 1) S = .ok x S := by
  match ds, l2 with
  | a :: b :: r, _ => exact ⟨b, by simp, fun S => ixAt (n := 1) rfl S⟩
theorem catL_at {xs ys : List Dat} {S : List Dat} (h : xs.length + ys.length ≤ 100000) : dCatL (.lst xs) (.lst ys) S = .ok (.lst (xs ++ ys)) S := by
  show (M.need (decide (xs.length + ys.length ≤ 100000)) >>= fun _ => pure (Dat.lst (xs ++ ys)) : M Dat) S = _
  rw [decide_eq_true h]
  rfl
theorem catT_at {xs ys : List Dat} {S : List Dat} (h : xs.length + ys.length ≤ 100000) : dCatT (.tup xs) (.tup ys) S = .ok (.tup (xs ++ ys)) S := by
  show (M.need (decide (xs.length + ys.length ≤ 100000)) >>= fun _ => pure (Dat.tup (xs ++ ys)) : M Dat) S = _
  rw [decide_eq_true h]
  rfl
section
variable {ℓ : Nat} {kk : Ki × Ki} {cs nm : List Str} {ps : List Dat}
theorem w_values {k : Nat} {S : List Dat} {C : Dat → List Dat → Prop} (hk : kk ∈ kindsL) (hc : cs ∈ nsets) (hn : nm ∈ nsets) (hP : Pgms cs ps) (ef : ps.map fstD = nm.map .str) (h : Pot ℓ (k + 30) S)
    (q : ∀ vs S', (∀ v, v ∈ vs → Mv v) → Pot ℓ k S' → FrS ℓ S S' → C (.lst vs) S') : wp (L__law_values [.loc ℓ, wdict kk cs ps]) S C := by
  refine wp_run (wp_seq (wp_asg (wp_call (wp_cons (wp_of (a := wdict kk cs ps) (S' := S) rfl (wp_cons (wp_call (wp_cons (wp_of (a := .loc ℓ) (S' := S) rfl (wp_cons (wp_of (a := wdict kk cs ps) (S' := S) rfl (wp_nil ?_))))))))))))
  refine w_span (k := k + 29) hk h fun sp S1 hs hp1 f1 => ?_
  obtain ⟨run, sd, st⟩ := state_at (S := S1) (sp := sp) (kk := kk) hc hP
  refine wp_nil (wp_of st ⟨_, rfl, ?_⟩)
  dsimp only
  refine wp_seq (wp_asg (wp_op (wp_call (wp_cons (wp_of (a := .loc ℓ) (S' := S1) rfl (wp_cons (wp_of (a := stateD (wdict kk cs ps) run sd sp) (S' := S1) rfl (wp_nil ?_))))))))
  refine w_menu (k := k + 21) hk hc hn hP ef hs hp1 fun as S2 la ma hp2 f2 => ?_
  refine wp_call (wp_cons (wp_of (a := .loc ℓ) (S' := S2) rfl (wp_cons (wp_of (a := stateD (wdict kk cs ps) run sd sp) (S' := S2) rfl (wp_nil ?_)))))
  refine w_menu (k := k + 13) hk hc hn hP ef hs hp2 fun bs S3 lb mb hp3 f3 => ?_
  refine wp_of (catL_at (by omega)) ⟨_, rfl, ?_⟩
  dsimp only
  have ms : ∀ d, d ∈ as ++ bs → StepT d := fun d m => (List.mem_append.mp m).elim (fun m => menu_st hc hn (ma d m)) fun m => menu_st hc hn (mb d m)
  have lab : (as ++ bs).length = 26 := by rw [List.length_append]; omega
  generalize as ++ bs = es at ms lab ⊢
  refine wp_seq (wp_asg (wp_call (wp_cons (wp_of (a := .loc ℓ) (S' := S3) rfl (wp_cons (wp_of (a := .lst es) (S' := S3) rfl (wp_nil ?_)))))))
  have hp3 : Pot ℓ (k + 12 + 1) S3 := hp3
  refine w_of hp3 (by omega) (by omega) fun stp S4 mstp hp4 f4 => ?_
  refine ⟨_, rfl, ?_⟩
  dsimp only
  have hst := ms stp mstp
  obtain ⟨ds, rfl, l2, l4, hl⟩ := hst
  obtain ⟨x1, m1, i1⟩ := ixOne l2
  obtain ⟨xz, mz, iz⟩ := ixLast l2 l4
  have hst : StepT (.tup ds) := ⟨ds, rfl, l2, l4, hl⟩
  refine wp_seq (wp_asg (wp_of (a := .lst (wordsL.map .str)) (S' := S4) rfl ?_))
  refine ⟨_, rfl, ?_⟩
  dsimp only
  refine wp_seq (wp_asg (wp_of (a := .lst partsL) (S' := S4) (by kernel_rfl) ?_))
  refine ⟨_, rfl, ?_⟩
  dsimp only
  have hp4 : Pot ℓ (k + 11 + 1) S4 := hp4
  refine wp_seq (wp_asg (wp_cb (wp_cons (wp_lc (wp_bind (wp_cons (wp_call (wp_cons (wp_of (a := .loc ℓ) (S' := S4) rfl (wp_cons (wp_of (a := .int 4) (S' := S4) rfl (wp_nil ?_))))))))))))
  refine w_take hp4 (by decide) (by decide) fun r S5 r0 r1 hp5 f5 => wp_nil (wp_need (decide_eq_true (by omega)) ⟨by rw [intsD_len]; omega, ?_⟩)
  refine wp_comp (I := fun left acc S => acc.length + left.length ≤ 3 ∧ (∀ x ∈ acc, Gd 1 x) ∧ Pot ℓ (k + 8 + left.length) S ∧ FrS ℓ S5 S) (fun d left acc S ⟨l, a, hp, f⟩ => ⟨_, rfl, ?_⟩) _ [] S5 _ ⟨by rw [intsD_len, List.length_nil]; omega, nofun, hp5.le (by rw [intsD_len]; omega), .refl⟩ fun xs S6 ⟨l6, a6, hp6, f6⟩ => ?_
  · have hp : Pot ℓ (k + 8 + left.length + 1) S := hp.le (by rw [List.length_cons]; omega)
    refine wp_call (wp_cons (wp_of (a := .loc ℓ) (S' := S) rfl (wp_cons (wp_op (wp_of (a := .lst partsL) (S' := S) rfl (wp_lst (wp_cons (wp_op (wp_of (a := .tup ds) (S' := S) rfl (wp_of (a := .int 1) (S' := S) rfl (wp_of (i1 S) (wp_nil ⟨(by decide : 1 ≤ 1000), ?_⟩))))))))))))
    refine wp_of (catL_at (by show 13 + 1 ≤ 100000; decide)) (wp_nil ?_)
    refine w_of hp (by show 0 < 14; decide) (by show 14 ≤ 1000; decide) fun y S' my hp' f' => ⟨?_, fun z m => ?_, hp', f.trans f'⟩
    · rw [List.length_append]
      rw [List.length_cons] at l
      show acc.length + 1 + _ ≤ 3
      omega
    · rcases List.mem_append.mp m with m | m
      · exact a z m
      · rw [List.mem_singleton.mp m]
        exact partsL_gd (hl x1 m1) my
  · rw [List.nil_append] at a6 l6
    rw [List.length_nil, Nat.add_zero] at l6
    refine wp_nil (wp_of (a := .tup xs) (S' := S6) rfl ?_)
    refine ⟨_, rfl, ?_⟩
    dsimp only
    have hp6 : Pot ℓ (k + 7 + 1) S6 := hp6
    refine wp_seq (wp_asg (wp_op (wp_of (a := .lst es) (S' := S6) rfl (wp_lst (wp_cons (wp_op (wp_tup (wp_cons (wp_call (wp_cons (wp_of (a := .loc ℓ) (S' := S6) rfl (wp_cons (wp_of (a := .lst ((wordsL ++ [("purge" : Str)]).map .str)) (S' := S6) rfl (wp_nil ?_))))))))))))))
    refine w_ofS (wordsL ++ [("purge" : Str)]) hp6 (by decide) (by decide) fun w S7 mw hp7 f7 => ?_
    refine wp_nil ⟨(by decide : 1 ≤ 1000), ?_⟩
    refine wp_of (a := .tup xs) (S' := S7) rfl (wp_of (catT_at (by show 1 + xs.length ≤ _; omega)) ?_)
    have hp7 : Pot ℓ (k + 5 + 2) S7 := hp7
    refine wp_cons (wp_call (wp_cons (wp_of (a := .loc ℓ) (S' := S7) rfl (wp_cons (wp_of (a := .tup ds) (S' := S7) rfl (wp_nil ?_))))))
    refine w_odd hp7 hst fun o1 S8 mo1 hp8 f8 => ?_
    have hp8 : Pot ℓ (k + 3 + 2) S8 := hp8
    refine wp_cons (wp_call (wp_cons (wp_of (a := .loc ℓ) (S' := S8) rfl (wp_cons (wp_of (a := .tup ds) (S' := S8) rfl (wp_nil ?_))))))
    refine w_odd hp8 hst fun o2 S9 mo2 hp9 f9 => ?_
    refine wp_nil ⟨(by decide : 3 ≤ 1000), wp_of (catL_at (by show es.length + 3 ≤ _; omega)) ⟨_, rfl, ?_⟩⟩
    dsimp only
    refine wp_ret (wp_op (wp_of (a := .lst (es ++ [.tup ([.str w] ++ xs), o1, o2])) (S' := S9) rfl (wp_lst (wp_cons (wp_op (wp_of (a := .tup ds) (S' := S9) rfl ?_))))))
    refine wp_tup (wp_cons (wp_op (wp_of (a := .tup ds) (S' := S9) rfl (wp_of (a := .int (-1)) (S' := S9) rfl (wp_of (iz S9) (wp_nil ⟨(by decide : 1 ≤ 1000), ?_⟩))))))
    refine wp_of (catT_at (by show ds.length + 1 ≤ _; omega)) (wp_nil ⟨(by decide : 1 ≤ 1000), ?_⟩)
    refine wp_of (catL_at (by rw [List.length_append]; show es.length + 3 + 1 ≤ _; omega)) (wp_pure ?_)
    refine q _ S9 (fun v m => ?_) (hp9.le (by omega)) ((((((((f1.trans f2).trans f3).trans f4).trans f5).trans f6).trans f7).trans f8).trans f9)
    rcases List.mem_append.mp m with m | m
    · rcases List.mem_append.mp m with m | m
      · obtain ⟨es, rfl, _, l, h⟩ := ms v m
        exact .inl (Gd.tup (by omega) (lg_gd h 1))
      · have wl : lg (.str w) := lg_s2 (by
          have : ∀ s, s ∈ wordsL ++ [("purge" : Str)] → s ∈ WS := by decide +kernel
          exact this w mw)
        rcases List.mem_cons.mp m with rfl | m
        · refine .inl (Gd.tup (by show xs.length + 1 ≤ 8; omega) fun x m => ?_)
          rcases List.mem_cons.mp m with rfl | m
          · exact Gd.lf wl
          · exact a6 x m
        · exact st_all2 (P := Mv) mo1 mo2 v m
    · rw [List.mem_singleton.mp m]
      refine .inl (Gd.tup (by rw [List.length_append]; show ds.length + 1 ≤ 8; omega) fun x m => ?_)
      rcases List.mem_append.mp m with m | m
      · exact lg_gd hl 1 x m
      · rw [List.mem_singleton.mp m]
        exact lg_gd hl 1 xz mz
theorem ne_same {z : Str} (S : List Dat) : dNe (.str z) (.str z) S = .ok (.bl false) S := by
  show (M.need (scal (V.str z) (V.str z)) >>= fun _ => pure (Dat.bl (!decide (V.str z = V.str z))) : M Dat) S = _
  rw [decide_eq_true rfl]
  rfl
theorem ne_bool {b : Bool} (S : List Dat) : dNe (.bl b) (.bl b) S = .ok (.bl false) S := by
  cases b <;> rfl
theorem w_right {k : Nat} {S : List Dat} {C : Dat → List Dat → Prop} (h : Pot ℓ (k + 263) S) (q : ∀ S', Pot ℓ k S' → FrS ℓ S S' → C (.bl true) S') : wp (L__law_right [.loc ℓ]) S C := by
  have h : Pot ℓ (k + 30 + 233) S := h
  refine wp_run (wp_seq (wp_asg (wp_call (wp_cons (wp_of (a := .loc ℓ) (S' := S) rfl (wp_nil ?_))))))
  refine w_world h fun kk cs ps S1 hk hc hP hp1 f1 => ⟨_, rfl, ?_⟩
  dsimp only
  obtain ⟨nm, hn, ef⟩ := hP.fs
  have l3 := (nsets_len nm hn).1
  refine wp_seq (wp_asg (wp_call (wp_cons (wp_of (a := wdict kk cs ps) (S' := S1) rfl (wp_nil (wp_of (c_made hk hc hP S1) ⟨_, rfl, ?_⟩))))))
  dsimp only
  refine wp_seq (wp_bind (wp_bind (wp_call (wp_cons (wp_of (a := .loc ℓ) (S' := S1) rfl (wp_cons (wp_of (a := wdict kk cs ps) (S' := S1) rfl (wp_nil ?_))))))))
  refine w_values hk hc hn hP ef hp1 fun vs S2 mv hp2 f2 => ?_
  refine wp_of (a := vs) (S' := S2) rfl ?_
  refine wp_for (I := fun left ρ S => (∀ v, v ∈ left → Mv v) ∧ S = S2 ∧ ∃ z3 z4 z5, ρ = [some (.loc ℓ), some (wdict kk cs ps), some (worldO kk cs ps), z3, z4, z5]) (fun d left ρ S I => ?_) (fun ρ S I => ?_) _ _ _ ⟨mv, rfl, _, _, _, rfl⟩
  · obtain ⟨m, eS, z3, z4, z5, rfl⟩ := I
    subst eS
    have hv := m d List.mem_cons_self
    obtain ⟨z, hz⟩ := hv.repr
    refine ⟨_, rfl, ?_⟩
    refine wp_seq (wp_asg (wp_cb (wp_cons (wp_of (a := d) rfl (wp_nil (wp_of (hz _) ⟨_, rfl, ?_⟩))))))
    dsimp only
    refine wp_seq (wp_asg (wp_call (wp_cons (wp_of (a := worldO kk cs ps) rfl (wp_cons (wp_of (a := d) rfl (wp_nil (wp_of (c_isstep hc hP ef hv.gv hv.nl _) ⟨_, rfl, ?_⟩))))))))
    dsimp only
    refine wp_if (wp_or (wp_not (wp_test (wp_of (a := .bl true) rfl ⟨_, rfl, nofun, fun _ => ?_⟩))))
    refine wp_or (wp_test (wp_op (wp_of (a := .bl (stepW cs nm d)) rfl (wp_call (wp_cons (wp_of (a := wdict kk cs ps) rfl (wp_cons (wp_of (a := d) rfl (wp_nil (wp_of (c_lawstep hP l3 ef hv.gv hv.nl _) ?_))))))))))
    refine wp_of (ne_bool _) ⟨_, rfl, nofun, fun _ => ?_⟩
    refine wp_test (wp_op (wp_cb (wp_cons (wp_of (a := d) rfl (wp_nil (wp_of (hz _) (wp_of (a := .str z) rfl (wp_of (ne_same _) ⟨_, rfl, nofun, fun _ => ?_⟩))))))))
    exact wp_of rfl ⟨fun v hv => m v (List.mem_cons_of_mem _ hv), rfl, _, _, _, rfl⟩
  · obtain ⟨_, eS, z3, z4, z5, rfl⟩ := I
    subst eS
    exact wp_ret (wp_of rfl (wp_pure (q _ hp2 (f1.trans f2))))
end
theorem law_true (ns : List Int) (few : ns.length ≤ 63) : ∃ S', L_law [.scr ns] [] = .ok (.bl true) S' := by
  have w : wp (L_law [.scr ns]) [] fun d _ => d = .bl true := by
    refine wp_run (wp_seq (law_loop (r := [none, none]) (fun r' S i i3 hr => ?_) fun ρ S => wp_ret (wp_of rfl rfl)))
    match r', hr with
    | [a, b], _ =>
      refine wp_seq (wp_asg (wp_call (wp_cons (wp_of (a := .scr ns) (S' := S) rfl (wp_cons (wp_of (a := .int (i : Int)) (S' := S) rfl (wp_nil ?_)))))))
      refine w_pot i3 fun S1 hp l1 => ⟨_, rfl, ?_⟩
      dsimp only
      refine wp_if (wp_not (wp_test (wp_cb (wp_cons (wp_lc (wp_of (a := intsD 0 6) (S' := S1) rfl ⟨by rw [intsD_len]; decide, ?_⟩))))))
      refine wp_comp (I := fun left acc S2 => (∀ x ∈ acc, x = .bl true) ∧ Pot S.length (263 * left.length) S2) (fun d left acc S2 ⟨a, hp⟩ => ⟨_, rfl, ?_⟩) _ [] S1 _ ⟨nofun, hp.le (by rw [intsD_len]; decide)⟩ fun xs S3 ⟨a3, hp3⟩ => ?_
      · refine wp_call (wp_cons (wp_of (a := .loc S.length) (S' := S2) rfl (wp_nil ?_)))
        refine w_right (k := 263 * left.length) (hp.le (by rw [List.length_cons]; omega)) fun S' hp' _ => ⟨fun x m => ?_, hp'⟩
        rcases List.mem_append.mp m with m | m
        · exact a x m
        · exact List.mem_singleton.mp m
      · rw [List.nil_append] at a3
        have ex : xs = (xs.map fun _ => true).map .bl := by
          rw [List.map_map]
          refine (List.map_id xs).symm.trans ?_
          exact List.map_congr_left fun x m => a3 x m
        rw [ex]
        refine wp_nil (wp_of all_of ⟨_, rfl, ?_⟩)
        have : ((xs.map fun _ => true).all id) = true := by rw [List.all_map, List.all_eq_true]; exact fun _ _ => rfl
        rw [this]
        exact ⟨nofun, fun _ => wp_of rfl ⟨_, _, rfl, rfl⟩⟩
  obtain ⟨d, S', e, rfl⟩ := wp_ok w
  exact ⟨S', e⟩
end Zd

namespace Zd
open PySem PySem.Spec PyProof.Rows L2 Zg

def spLaw (K : PySem.W.Frag) : Sp := fun vs H Q _ => ∃ (a : Addr) (ns : List Int), vs = [.ref a] ∧ SqL K H a (ns.map V.int) ∧ ns.length ≤ 63 ∧ ∀ H', Q (.bl true) H'
theorem law_end {P : Program} {w : World} {K : PySem.W.Frag} {mg : Str → Option Value} {base : Heap} {κ : String → Addr} {k : Nat} {f : Addr} {fd : FuncData} {ps : List Str} (F : FnG P w K mg base CX0 k f fd ps (spD ⟨K, κ⟩ 1 L_law)) : FnG P w K mg base CX0 k f fd ps (spLaw K) := by
  have up : ∀ vs H Q E, spLaw K vs H Q E → spD ⟨K, κ⟩ 1 L_law vs H Q E := fun vs H Q E ⟨a, ns, ev, hs, few, k⟩ => by
    subst ev
    obtain ⟨S', e⟩ := law_true ns few
    refine ⟨rfl, ⟨[], [], []⟩, [.scr ns], [], rfl, .one (isD_scr.mpr ⟨a, rfl, ?_⟩), ⟨rfl, List.nodup_nil, nofun, nofun, fun x h => (h.elim nofun nofun), fun n x d h => by simp at h⟩, ?_⟩
    · rcases hs with hs | hs
      · exact .inl ⟨hs, fun h => h.elim nofun fun h => h.elim nofun nofun⟩
      · exact .inr fun _ => .inr hs
    · rw [e]
      exact fun H' p' _ _ v hv => by rw [isD_bl.mp hv]; exact k H'
  exact ⟨fun vs H Q E h => F.many vs H Q E (up vs H Q E h), fun A c fr s H args us vs Q E room e0 b rel h => F.goes A c fr s H args us vs Q E room e0 b rel (up vs H Q E h)⟩
theorem all_mk {l : PySem.W.OpenLaw} {w : World} {K : PySem.W.Frag} {h : Heap} {mg : Str → Option Value} {fa : Addr}
    {n_MOST_LETTERS n_LEAST_NARROW n_MOST_PACE n_MOST_IN_TWO_EVENTS : Tok}
    {C_World : Addr}
    {C_Kind : Addr}
    {a_SIDES : Addr}
    {a_RULES : Addr}
    {a_MANNERS : Addr}
    {a_DEEDS : Addr}
    {a_READ_SIDES : Addr}
    {a_HOWS : Addr}
    {a_IN_TWO_EVENTS : Addr}
    {a_STEP_FORMS : Addr}
    {feditions_of : Addr} {odeditions_of aneditions_of : Option Addr} {sleditions_of : Array (Option Value)} {oceditions_of kVeditions_of dceditions_of pmeditions_of cdeditions_of cteditions_of : Value}
    {fis_integer : Addr} {odis_integer anis_integer : Option Addr} {slis_integer : Array (Option Value)} {ocis_integer kVis_integer dcis_integer pmis_integer cdis_integer ctis_integer : Value}
    {fis_between : Addr} {odis_between anis_between : Option Addr} {slis_between : Array (Option Value)} {ocis_between kVis_between dcis_between pmis_between cdis_between ctis_between : Value}
    {fis_name : Addr} {odis_name anis_name : Option Addr} {slis_name : Array (Option Value)} {ocis_name kVis_name dcis_name pmis_name cdis_name ctis_name : Value}
    {fis_tuple_of : Addr} {odis_tuple_of anis_tuple_of : Option Addr} {slis_tuple_of : Array (Option Value)} {ocis_tuple_of kVis_tuple_of dcis_tuple_of pmis_tuple_of cdis_tuple_of ctis_tuple_of : Value}
    {fis_ascending : Addr} {odis_ascending anis_ascending : Option Addr} {slis_ascending : Array (Option Value)} {ocis_ascending kVis_ascending dcis_ascending pmis_ascending cdis_ascending ctis_ascending : Value}
    {fstep_form : Addr} {odstep_form anstep_form : Option Addr} {slstep_form : Array (Option Value)} {ocstep_form kVstep_form dcstep_form pmstep_form cdstep_form ctstep_form : Value}
    {fis_plain_part : Addr} {odis_plain_part anis_plain_part : Option Addr} {slis_plain_part : Array (Option Value)} {ocis_plain_part kVis_plain_part dcis_plain_part pmis_plain_part cdis_plain_part ctis_plain_part : Value}
    {fis_count : Addr} {odis_count anis_count : Option Addr} {slis_count : Array (Option Value)} {ocis_count kVis_count dcis_count pmis_count cdis_count ctis_count : Value}
    {f_first_word : Addr} {od_first_word an_first_word : Option Addr} {sl_first_word : Array (Option Value)} {oc_first_word kV_first_word dc_first_word pm_first_word cd_first_word ct_first_word : Value}
    {fis_step : Addr} {odis_step anis_step : Option Addr} {slis_step : Array (Option Value)} {ocis_step kVis_step dcis_step pmis_step cdis_step ctis_step : Value}
    {fare_parts : Addr} {odare_parts anare_parts : Option Addr} {slare_parts : Array (Option Value)} {ocare_parts kVare_parts dcare_parts pmare_parts cdare_parts ctare_parts : Value}
    {f_is_part : Addr} {od_is_part an_is_part : Option Addr} {sl_is_part : Array (Option Value)} {oc_is_part kV_is_part dc_is_part pm_is_part cd_is_part ct_is_part : Value}
    {fKind___init__ : Addr} {odKind___init__ anKind___init__ : Option Addr} {slKind___init__ : Array (Option Value)} {ocKind___init__ kVKind___init__ dcKind___init__ pmKind___init__ cdKind___init__ ctKind___init__ : Value}
    {fKind___eq__ : Addr} {odKind___eq__ anKind___eq__ : Option Addr} {slKind___eq__ : Array (Option Value)} {ocKind___eq__ kVKind___eq__ dcKind___eq__ pmKind___eq__ cdKind___eq__ ctKind___eq__ : Value}
    {fKind___le__ : Addr} {odKind___le__ anKind___le__ : Option Addr} {slKind___le__ : Array (Option Value)} {ocKind___le__ kVKind___le__ dcKind___le__ pmKind___le__ cdKind___le__ ctKind___le__ : Value}
    {fKind___lt__ : Addr} {odKind___lt__ anKind___lt__ : Option Addr} {slKind___lt__ : Array (Option Value)} {ocKind___lt__ kVKind___lt__ dcKind___lt__ pmKind___lt__ cdKind___lt__ ctKind___lt__ : Value}
    {fWorld___init__ : Addr} {odWorld___init__ anWorld___init__ : Option Addr} {slWorld___init__ : Array (Option Value)} {ocWorld___init__ kVWorld___init__ dcWorld___init__ pmWorld___init__ cdWorld___init__ ctWorld___init__ : Value}
    {f_are_kinds : Addr} {od_are_kinds an_are_kinds : Option Addr} {sl_are_kinds : Array (Option Value)} {oc_are_kinds kV_are_kinds dc_are_kinds pm_are_kinds cd_are_kinds ct_are_kinds : Value}
    {f_are_columns : Addr} {od_are_columns an_are_columns : Option Addr} {sl_are_columns : Array (Option Value)} {oc_are_columns kV_are_columns dc_are_columns pm_are_columns cd_are_columns ct_are_columns : Value}
    {f_are_programs : Addr} {od_are_programs an_are_programs : Option Addr} {sl_are_programs : Array (Option Value)} {oc_are_programs kV_are_programs dc_are_programs pm_are_programs cd_are_programs ct_are_programs : Value}
    {f_is_program : Addr} {od_is_program an_is_program : Option Addr} {sl_is_program : Array (Option Value)} {oc_is_program kV_is_program dc_is_program pm_is_program cd_is_program ct_is_program : Value}
    {f_is_edition : Addr} {od_is_edition an_is_edition : Option Addr} {sl_is_edition : Array (Option Value)} {oc_is_edition kV_is_edition dc_is_edition pm_is_edition cd_is_edition ct_is_edition : Value}
    {f_are_rows : Addr} {od_are_rows an_are_rows : Option Addr} {sl_are_rows : Array (Option Value)} {oc_are_rows kV_are_rows dc_are_rows pm_are_rows cd_are_rows ct_are_rows : Value}
    {f_is_read : Addr} {od_is_read an_is_read : Option Addr} {sl_is_read : Array (Option Value)} {oc_is_read kV_is_read dc_is_read pm_is_read cd_is_read ct_is_read : Value}
    {f_is_write : Addr} {od_is_write an_is_write : Option Addr} {sl_is_write : Array (Option Value)} {oc_is_write kV_is_write dc_is_write pm_is_write cd_is_write ct_is_write : Value}
    {f_is_first_edition : Addr} {od_is_first_edition an_is_first_edition : Option Addr} {sl_is_first_edition : Array (Option Value)} {oc_is_first_edition kV_is_first_edition dc_is_first_edition pm_is_first_edition cd_is_first_edition ct_is_first_edition : Value}
    {f_many_in_two_events : Addr} {od_many_in_two_events an_many_in_two_events : Option Addr} {sl_many_in_two_events : Array (Option Value)} {oc_many_in_two_events kV_many_in_two_events dc_many_in_two_events pm_many_in_two_events cd_many_in_two_events ct_many_in_two_events : Value}
    {f_law_pot_of : Addr} {od_law_pot_of an_law_pot_of : Option Addr} {sl_law_pot_of : Array (Option Value)} {oc_law_pot_of kV_law_pot_of dc_law_pot_of pm_law_pot_of cd_law_pot_of ct_law_pot_of : Value}
    {f_law_take : Addr} {od_law_take an_law_take : Option Addr} {sl_law_take : Array (Option Value)} {oc_law_take kV_law_take dc_law_take pm_law_take cd_law_take ct_law_take : Value}
    {f_law_of : Addr} {od_law_of an_law_of : Option Addr} {sl_law_of : Array (Option Value)} {oc_law_of kV_law_of dc_law_of pm_law_of cd_law_of ct_law_of : Value}
    {f_law_some_names : Addr} {od_law_some_names an_law_some_names : Option Addr} {sl_law_some_names : Array (Option Value)} {oc_law_some_names kV_law_some_names dc_law_some_names pm_law_some_names cd_law_some_names ct_law_some_names : Value}
    {f_law_reads : Addr} {od_law_reads an_law_reads : Option Addr} {sl_law_reads : Array (Option Value)} {oc_law_reads kV_law_reads dc_law_reads pm_law_reads cd_law_reads ct_law_reads : Value}
    {f_law_writes : Addr} {od_law_writes an_law_writes : Option Addr} {sl_law_writes : Array (Option Value)} {oc_law_writes kV_law_writes dc_law_writes pm_law_writes cd_law_writes ct_law_writes : Value}
    {f_law_editions : Addr} {od_law_editions an_law_editions : Option Addr} {sl_law_editions : Array (Option Value)} {oc_law_editions kV_law_editions dc_law_editions pm_law_editions cd_law_editions ct_law_editions : Value}
    {f_law_world : Addr} {od_law_world an_law_world : Option Addr} {sl_law_world : Array (Option Value)} {oc_law_world kV_law_world dc_law_world pm_law_world cd_law_world ct_law_world : Value}
    {f_law_made : Addr} {od_law_made an_law_made : Option Addr} {sl_law_made : Array (Option Value)} {oc_law_made kV_law_made dc_law_made pm_law_made cd_law_made ct_law_made : Value}
    {f_law_is_fit : Addr} {od_law_is_fit an_law_is_fit : Option Addr} {sl_law_is_fit : Array (Option Value)} {oc_law_is_fit kV_law_is_fit dc_law_is_fit pm_law_is_fit cd_law_is_fit ct_law_is_fit : Value}
    {f_law_span : Addr} {od_law_span an_law_span : Option Addr} {sl_law_span : Array (Option Value)} {oc_law_span kV_law_span dc_law_span pm_law_span cd_law_span ct_law_span : Value}
    {f_law_first_state : Addr} {od_law_first_state an_law_first_state : Option Addr} {sl_law_first_state : Array (Option Value)} {oc_law_first_state kV_law_first_state dc_law_first_state pm_law_first_state cd_law_first_state ct_law_first_state : Value}
    {f_law_column_steps : Addr} {od_law_column_steps an_law_column_steps : Option Addr} {sl_law_column_steps : Array (Option Value)} {oc_law_column_steps kV_law_column_steps dc_law_column_steps pm_law_column_steps cd_law_column_steps ct_law_column_steps : Value}
    {f_law_span_steps : Addr} {od_law_span_steps an_law_span_steps : Option Addr} {sl_law_span_steps : Array (Option Value)} {oc_law_span_steps kV_law_span_steps dc_law_span_steps pm_law_span_steps cd_law_span_steps ct_law_span_steps : Value}
    {f_law_menu : Addr} {od_law_menu an_law_menu : Option Addr} {sl_law_menu : Array (Option Value)} {oc_law_menu kV_law_menu dc_law_menu pm_law_menu cd_law_menu ct_law_menu : Value}
    {f_law_odd : Addr} {od_law_odd an_law_odd : Option Addr} {sl_law_odd : Array (Option Value)} {oc_law_odd kV_law_odd dc_law_odd pm_law_odd cd_law_odd ct_law_odd : Value}
    {f_law_fits : Addr} {od_law_fits an_law_fits : Option Addr} {sl_law_fits : Array (Option Value)} {oc_law_fits kV_law_fits dc_law_fits pm_law_fits cd_law_fits ct_law_fits : Value}
    {f_law_is_step : Addr} {od_law_is_step an_law_is_step : Option Addr} {sl_law_is_step : Array (Option Value)} {oc_law_is_step kV_law_is_step dc_law_is_step pm_law_is_step cd_law_is_step ct_law_is_step : Value}
    {f_law_values : Addr} {od_law_values an_law_values : Option Addr} {sl_law_values : Array (Option Value)} {oc_law_values kV_law_values dc_law_values pm_law_values cd_law_values ct_law_values : Value}
    {f_law_right : Addr} {od_law_right an_law_right : Option Addr} {sl_law_right : Array (Option Value)} {oc_law_right kV_law_right dc_law_right pm_law_right cd_law_right ct_law_right : Value}
    {flaw : Addr} {odlaw anlaw : Option Addr} {sllaw : Array (Option Value)} {oclaw kVlaw dclaw pmlaw cdlaw ctlaw : Value}
    (X : K.In h) (G : h.Ns mainGlobals mg) (hfa : mg "law" = some (.ref fa))
    (haCWorld : PySem.W.nsIn K mainGlobals "World" = some (some (.ref C_World)))
    (hpgWorld : PySem.W.plainGet K C_World Str.empty = true)
    (hhdWorld : PySem.W.hasDictIn K C_World = true)
    (hpoWorld : PySem.W.plainOver K C_World = true)
    (hsaWorld : PySem.W.findIn K (.ref C_World) "__setattr__" = some (some (.builtin "object.__setattr__")))
    (hmkWorld : PySem.W.makesIn K C_World = true)
    (hkcWorld : PySem.W.keepIn K (.ref C_World) = true)
    (hx1World : PySem.W.findIn K (.ref C_World) "__class__" = some (some (.builtin "object.__class__")))
    (hx4World : PySem.W.mroIn K C_World (.type "object") = some true)
    (hnWorld_narrow : PySem.W.findIn K (.ref C_World) "narrow" = some none)
    (hnWorld_wide : PySem.W.findIn K (.ref C_World) "wide" = some none)
    (hnWorld_columns : PySem.W.findIn K (.ref C_World) "columns" = some none)
    (hnWorld_programs : PySem.W.findIn K (.ref C_World) "programs" = some none)
    (haCKind : PySem.W.nsIn K mainGlobals "Kind" = some (some (.ref C_Kind)))
    (hpgKind : PySem.W.plainGet K C_Kind Str.empty = true)
    (hhdKind : PySem.W.hasDictIn K C_Kind = true)
    (hpoKind : PySem.W.plainOver K C_Kind = true)
    (hsaKind : PySem.W.findIn K (.ref C_Kind) "__setattr__" = some (some (.builtin "object.__setattr__")))
    (hmkKind : PySem.W.makesIn K C_Kind = true)
    (hkcKind : PySem.W.keepIn K (.ref C_Kind) = true)
    (hx1Kind : PySem.W.findIn K (.ref C_Kind) "__class__" = some (some (.builtin "object.__class__")))
    (hx4Kind : PySem.W.mroIn K C_Kind (.type "object") = some true)
    (hnKind_low : PySem.W.findIn K (.ref C_Kind) "low" = some none)
    (hnKind_high : PySem.W.findIn K (.ref C_Kind) "high" = some none)
    (hnKind_size : PySem.W.findIn K (.ref C_Kind) "size" = some none)
    (hgnMOST_LETTERS : PySem.W.nsIn K mainGlobals "MOST_LETTERS" = some (some (.int 8 n_MOST_LETTERS)))
    (hgnLEAST_NARROW : PySem.W.nsIn K mainGlobals "LEAST_NARROW" = some (some (.int 16 n_LEAST_NARROW)))
    (hgnMOST_PACE : PySem.W.nsIn K mainGlobals "MOST_PACE" = some (some (.int 99 n_MOST_PACE)))
    (hgnMOST_IN_TWO_EVENTS : PySem.W.nsIn K mainGlobals "MOST_IN_TWO_EVENTS" = some (some (.int 2 n_MOST_IN_TWO_EVENTS)))
    (hu0SIDES : PySem.W.nsIn K mainGlobals "SIDES" = some (some (.ref a_SIDES)))
    (hu1SIDES : tupW K a_SIDES = some (["narrow", "wide"] : List Str))
    (hu0RULES : PySem.W.nsIn K mainGlobals "RULES" = some (some (.ref a_RULES)))
    (hu1RULES : tupW K a_RULES = some (["cut", "empty", "refuse"] : List Str))
    (hu0MANNERS : PySem.W.nsIn K mainGlobals "MANNERS" = some (some (.ref a_MANNERS)))
    (hu1MANNERS : tupW K a_MANNERS = some (["empty", "anew"] : List Str))
    (hu0DEEDS : PySem.W.nsIn K mainGlobals "DEEDS" = some (some (.ref a_DEEDS)))
    (hu1DEEDS : tupW K a_DEEDS = some (["match", "order", "show"] : List Str))
    (hu0READ_SIDES : PySem.W.nsIn K mainGlobals "READ_SIDES" = some (some (.ref a_READ_SIDES)))
    (hu1READ_SIDES : tupW K a_READ_SIDES = some (["narrow", "wide", "either"] : List Str))
    (hu0HOWS : PySem.W.nsIn K mainGlobals "HOWS" = some (some (.ref a_HOWS)))
    (hu1HOWS : tupW K a_HOWS = some (["narrow", "wide", "both", "narrow first", "wide first"] : List Str))
    (hu0IN_TWO_EVENTS : PySem.W.nsIn K mainGlobals "IN_TWO_EVENTS" = some (some (.ref a_IN_TWO_EVENTS)))
    (hu1IN_TWO_EVENTS : tupW K a_IN_TWO_EVENTS = some (["narrow first", "wide first"] : List Str))
    (hv0STEP_FORMS : PySem.W.nsIn K mainGlobals "STEP_FORMS" = some (some (.ref a_STEP_FORMS)))
    (hv1STEP_FORMS : He.dicW K a_STEP_FORMS = some (He.keysIn w.params (t_STEP_FORMS.map (·.1))))
    (hv2STEP_FORMS : tabOk K a_STEP_FORMS t_STEP_FORMS = true)
    (hzdict : PySem.W.nsIn K mainGlobals "dict" = some none)
    (heW4 : PySem.W.specialIn K (.builtin "object.__class__") "__get__" = some (some (.builtin "getset_descriptor.__get__")))
    (heW5 : PySem.W.takesIn K (.builtin "object.__class__") = some true)
    (hzsorted : PySem.W.nsIn K mainGlobals "sorted" = some none)
    (haeditions_of : PySem.W.nsIn K mainGlobals "editions_of" = some (some (.ref feditions_of)))
    (hleditions_of : K.lookup feditions_of = some ⟨oceditions_of, odeditions_of, .func (PySem.W.fnOf "editions_of" "editions_of" (defArgs s_editions_of) (defBody s_editions_of) (defScope s_editions_of) .none kVeditions_of dceditions_of pmeditions_of aneditions_of cdeditions_of cteditions_of), sleditions_of⟩)
    (hceditions_of : PySem.W.codeIn K cdeditions_of "editions_of" = true)
    (hkeditions_of : PySem.W.keepIn K (.ref feditions_of) = true)
    (hais_integer : PySem.W.nsIn K mainGlobals "is_integer" = some (some (.ref fis_integer)))
    (hlis_integer : K.lookup fis_integer = some ⟨ocis_integer, odis_integer, .func (PySem.W.fnOf "is_integer" "is_integer" (defArgs s_is_integer) (defBody s_is_integer) (defScope s_is_integer) .none kVis_integer dcis_integer pmis_integer anis_integer cdis_integer ctis_integer), slis_integer⟩)
    (hcis_integer : PySem.W.codeIn K cdis_integer "is_integer" = true)
    (hkis_integer : PySem.W.keepIn K (.ref fis_integer) = true)
    (hais_between : PySem.W.nsIn K mainGlobals "is_between" = some (some (.ref fis_between)))
    (hlis_between : K.lookup fis_between = some ⟨ocis_between, odis_between, .func (PySem.W.fnOf "is_between" "is_between" (defArgs s_is_between) (defBody s_is_between) (defScope s_is_between) .none kVis_between dcis_between pmis_between anis_between cdis_between ctis_between), slis_between⟩)
    (hcis_between : PySem.W.codeIn K cdis_between "is_between" = true)
    (hkis_between : PySem.W.keepIn K (.ref fis_between) = true)
    (hais_name : PySem.W.nsIn K mainGlobals "is_name" = some (some (.ref fis_name)))
    (hlis_name : K.lookup fis_name = some ⟨ocis_name, odis_name, .func (PySem.W.fnOf "is_name" "is_name" (defArgs s_is_name) (defBody s_is_name) (defScope s_is_name) .none kVis_name dcis_name pmis_name anis_name cdis_name ctis_name), slis_name⟩)
    (hcis_name : PySem.W.codeIn K cdis_name "is_name" = true)
    (hkis_name : PySem.W.keepIn K (.ref fis_name) = true)
    (hais_tuple_of : PySem.W.nsIn K mainGlobals "is_tuple_of" = some (some (.ref fis_tuple_of)))
    (hlis_tuple_of : K.lookup fis_tuple_of = some ⟨ocis_tuple_of, odis_tuple_of, .func (PySem.W.fnOf "is_tuple_of" "is_tuple_of" (defArgs s_is_tuple_of) (defBody s_is_tuple_of) (defScope s_is_tuple_of) .none kVis_tuple_of dcis_tuple_of pmis_tuple_of anis_tuple_of cdis_tuple_of ctis_tuple_of), slis_tuple_of⟩)
    (hcis_tuple_of : PySem.W.codeIn K cdis_tuple_of "is_tuple_of" = true)
    (hkis_tuple_of : PySem.W.keepIn K (.ref fis_tuple_of) = true)
    (hais_ascending : PySem.W.nsIn K mainGlobals "is_ascending" = some (some (.ref fis_ascending)))
    (hlis_ascending : K.lookup fis_ascending = some ⟨ocis_ascending, odis_ascending, .func (PySem.W.fnOf "is_ascending" "is_ascending" (defArgs s_is_ascending) (defBody s_is_ascending) (defScope s_is_ascending) .none kVis_ascending dcis_ascending pmis_ascending anis_ascending cdis_ascending ctis_ascending), slis_ascending⟩)
    (hcis_ascending : PySem.W.codeIn K cdis_ascending "is_ascending" = true)
    (hkis_ascending : PySem.W.keepIn K (.ref fis_ascending) = true)
    (hastep_form : PySem.W.nsIn K mainGlobals "step_form" = some (some (.ref fstep_form)))
    (hlstep_form : K.lookup fstep_form = some ⟨ocstep_form, odstep_form, .func (PySem.W.fnOf "step_form" "step_form" (defArgs s_step_form) (defBody s_step_form) (defScope s_step_form) .none kVstep_form dcstep_form pmstep_form anstep_form cdstep_form ctstep_form), slstep_form⟩)
    (hcstep_form : PySem.W.codeIn K cdstep_form "step_form" = true)
    (hkstep_form : PySem.W.keepIn K (.ref fstep_form) = true)
    (hais_plain_part : PySem.W.nsIn K mainGlobals "is_plain_part" = some (some (.ref fis_plain_part)))
    (hlis_plain_part : K.lookup fis_plain_part = some ⟨ocis_plain_part, odis_plain_part, .func (PySem.W.fnOf "is_plain_part" "is_plain_part" (defArgs s_is_plain_part) (defBody s_is_plain_part) (defScope s_is_plain_part) .none kVis_plain_part dcis_plain_part pmis_plain_part anis_plain_part cdis_plain_part ctis_plain_part), slis_plain_part⟩)
    (hcis_plain_part : PySem.W.codeIn K cdis_plain_part "is_plain_part" = true)
    (hkis_plain_part : PySem.W.keepIn K (.ref fis_plain_part) = true)
    (hais_count : PySem.W.nsIn K mainGlobals "is_count" = some (some (.ref fis_count)))
    (hlis_count : K.lookup fis_count = some ⟨ocis_count, odis_count, .func (PySem.W.fnOf "is_count" "is_count" (defArgs s_is_count) (defBody s_is_count) (defScope s_is_count) .none kVis_count dcis_count pmis_count anis_count cdis_count ctis_count), slis_count⟩)
    (hcis_count : PySem.W.codeIn K cdis_count "is_count" = true)
    (hkis_count : PySem.W.keepIn K (.ref fis_count) = true)
    (ha_first_word : PySem.W.nsIn K mainGlobals "_first_word" = some (some (.ref f_first_word)))
    (hl_first_word : K.lookup f_first_word = some ⟨oc_first_word, od_first_word, .func (PySem.W.fnOf "_first_word" "_first_word" (defArgs s__first_word) (defBody s__first_word) (defScope s__first_word) .none kV_first_word dc_first_word pm_first_word an_first_word cd_first_word ct_first_word), sl_first_word⟩)
    (hc_first_word : PySem.W.codeIn K cd_first_word "_first_word" = true)
    (hk_first_word : PySem.W.keepIn K (.ref f_first_word) = true)
    (hais_step : PySem.W.nsIn K mainGlobals "is_step" = some (some (.ref fis_step)))
    (hlis_step : K.lookup fis_step = some ⟨ocis_step, odis_step, .func (PySem.W.fnOf "is_step" "is_step" (defArgs s_is_step) (defBody s_is_step) (defScope s_is_step) .none kVis_step dcis_step pmis_step anis_step cdis_step ctis_step), slis_step⟩)
    (hcis_step : PySem.W.codeIn K cdis_step "is_step" = true)
    (hkis_step : PySem.W.keepIn K (.ref fis_step) = true)
    (haare_parts : PySem.W.nsIn K mainGlobals "are_parts" = some (some (.ref fare_parts)))
    (hlare_parts : K.lookup fare_parts = some ⟨ocare_parts, odare_parts, .func (PySem.W.fnOf "are_parts" "are_parts" (defArgs s_are_parts) (defBody s_are_parts) (defScope s_are_parts) .none kVare_parts dcare_parts pmare_parts anare_parts cdare_parts ctare_parts), slare_parts⟩)
    (hcare_parts : PySem.W.codeIn K cdare_parts "are_parts" = true)
    (hkare_parts : PySem.W.keepIn K (.ref fare_parts) = true)
    (ha_is_part : PySem.W.nsIn K mainGlobals "_is_part" = some (some (.ref f_is_part)))
    (hl_is_part : K.lookup f_is_part = some ⟨oc_is_part, od_is_part, .func (PySem.W.fnOf "_is_part" "_is_part" (defArgs s__is_part) (defBody s__is_part) (defScope s__is_part) .none kV_is_part dc_is_part pm_is_part an_is_part cd_is_part ct_is_part), sl_is_part⟩)
    (hc_is_part : PySem.W.codeIn K cd_is_part "_is_part" = true)
    (hk_is_part : PySem.W.keepIn K (.ref f_is_part) = true)
    (haKind___init__ : PySem.W.findIn K (.ref C_Kind) "__init__" = some (some (.ref fKind___init__)))
    (hiKind___init__ : PySem.W.isFn K (.ref fKind___init__) = true)
    (hlKind___init__ : K.lookup fKind___init__ = some ⟨ocKind___init__, odKind___init__, .func (PySem.W.fnOf "__init__" "Kind.__init__" (defArgs s_Kind___init__) (defBody s_Kind___init__) (defScope s_Kind___init__) .none kVKind___init__ dcKind___init__ pmKind___init__ anKind___init__ cdKind___init__ ctKind___init__), slKind___init__⟩)
    (hcKind___init__ : PySem.W.codeIn K cdKind___init__ "Kind.__init__" = true)
    (hkKind___init__ : PySem.W.keepIn K (.ref fKind___init__) = true)
    (haKind___eq__ : PySem.W.findIn K (.ref C_Kind) "__eq__" = some (some (.ref fKind___eq__)))
    (hiKind___eq__ : PySem.W.isFn K (.ref fKind___eq__) = true)
    (hlKind___eq__ : K.lookup fKind___eq__ = some ⟨ocKind___eq__, odKind___eq__, .func (PySem.W.fnOf "__eq__" "Kind.__eq__" (defArgs s_Kind___eq__) (defBody s_Kind___eq__) (defScope s_Kind___eq__) .none kVKind___eq__ dcKind___eq__ pmKind___eq__ anKind___eq__ cdKind___eq__ ctKind___eq__), slKind___eq__⟩)
    (hcKind___eq__ : PySem.W.codeIn K cdKind___eq__ "Kind.__eq__" = true)
    (hkKind___eq__ : PySem.W.keepIn K (.ref fKind___eq__) = true)
    (haKind___le__ : PySem.W.findIn K (.ref C_Kind) "__le__" = some (some (.ref fKind___le__)))
    (hiKind___le__ : PySem.W.isFn K (.ref fKind___le__) = true)
    (hlKind___le__ : K.lookup fKind___le__ = some ⟨ocKind___le__, odKind___le__, .func (PySem.W.fnOf "__le__" "Kind.__le__" (defArgs s_Kind___le__) (defBody s_Kind___le__) (defScope s_Kind___le__) .none kVKind___le__ dcKind___le__ pmKind___le__ anKind___le__ cdKind___le__ ctKind___le__), slKind___le__⟩)
    (hcKind___le__ : PySem.W.codeIn K cdKind___le__ "Kind.__le__" = true)
    (hkKind___le__ : PySem.W.keepIn K (.ref fKind___le__) = true)
    (haKind___lt__ : PySem.W.findIn K (.ref C_Kind) "__lt__" = some (some (.ref fKind___lt__)))
    (hiKind___lt__ : PySem.W.isFn K (.ref fKind___lt__) = true)
    (hlKind___lt__ : K.lookup fKind___lt__ = some ⟨ocKind___lt__, odKind___lt__, .func (PySem.W.fnOf "__lt__" "Kind.__lt__" (defArgs s_Kind___lt__) (defBody s_Kind___lt__) (defScope s_Kind___lt__) .none kVKind___lt__ dcKind___lt__ pmKind___lt__ anKind___lt__ cdKind___lt__ ctKind___lt__), slKind___lt__⟩)
    (hcKind___lt__ : PySem.W.codeIn K cdKind___lt__ "Kind.__lt__" = true)
    (hkKind___lt__ : PySem.W.keepIn K (.ref fKind___lt__) = true)
    (haWorld___init__ : PySem.W.findIn K (.ref C_World) "__init__" = some (some (.ref fWorld___init__)))
    (hiWorld___init__ : PySem.W.isFn K (.ref fWorld___init__) = true)
    (hlWorld___init__ : K.lookup fWorld___init__ = some ⟨ocWorld___init__, odWorld___init__, .func (PySem.W.fnOf "__init__" "World.__init__" (defArgs s_World___init__) (defBody s_World___init__) (defScope s_World___init__) .none kVWorld___init__ dcWorld___init__ pmWorld___init__ anWorld___init__ cdWorld___init__ ctWorld___init__), slWorld___init__⟩)
    (hcWorld___init__ : PySem.W.codeIn K cdWorld___init__ "World.__init__" = true)
    (hkWorld___init__ : PySem.W.keepIn K (.ref fWorld___init__) = true)
    (ha_are_kinds : PySem.W.nsIn K mainGlobals "_are_kinds" = some (some (.ref f_are_kinds)))
    (hl_are_kinds : K.lookup f_are_kinds = some ⟨oc_are_kinds, od_are_kinds, .func (PySem.W.fnOf "_are_kinds" "_are_kinds" (defArgs s__are_kinds) (defBody s__are_kinds) (defScope s__are_kinds) .none kV_are_kinds dc_are_kinds pm_are_kinds an_are_kinds cd_are_kinds ct_are_kinds), sl_are_kinds⟩)
    (hc_are_kinds : PySem.W.codeIn K cd_are_kinds "_are_kinds" = true)
    (hk_are_kinds : PySem.W.keepIn K (.ref f_are_kinds) = true)
    (ha_are_columns : PySem.W.nsIn K mainGlobals "_are_columns" = some (some (.ref f_are_columns)))
    (hl_are_columns : K.lookup f_are_columns = some ⟨oc_are_columns, od_are_columns, .func (PySem.W.fnOf "_are_columns" "_are_columns" (defArgs s__are_columns) (defBody s__are_columns) (defScope s__are_columns) .none kV_are_columns dc_are_columns pm_are_columns an_are_columns cd_are_columns ct_are_columns), sl_are_columns⟩)
    (hc_are_columns : PySem.W.codeIn K cd_are_columns "_are_columns" = true)
    (hk_are_columns : PySem.W.keepIn K (.ref f_are_columns) = true)
    (ha_are_programs : PySem.W.nsIn K mainGlobals "_are_programs" = some (some (.ref f_are_programs)))
    (hl_are_programs : K.lookup f_are_programs = some ⟨oc_are_programs, od_are_programs, .func (PySem.W.fnOf "_are_programs" "_are_programs" (defArgs s__are_programs) (defBody s__are_programs) (defScope s__are_programs) .none kV_are_programs dc_are_programs pm_are_programs an_are_programs cd_are_programs ct_are_programs), sl_are_programs⟩)
    (hc_are_programs : PySem.W.codeIn K cd_are_programs "_are_programs" = true)
    (hk_are_programs : PySem.W.keepIn K (.ref f_are_programs) = true)
    (ha_is_program : PySem.W.nsIn K mainGlobals "_is_program" = some (some (.ref f_is_program)))
    (hl_is_program : K.lookup f_is_program = some ⟨oc_is_program, od_is_program, .func (PySem.W.fnOf "_is_program" "_is_program" (defArgs s__is_program) (defBody s__is_program) (defScope s__is_program) .none kV_is_program dc_is_program pm_is_program an_is_program cd_is_program ct_is_program), sl_is_program⟩)
    (hc_is_program : PySem.W.codeIn K cd_is_program "_is_program" = true)
    (hk_is_program : PySem.W.keepIn K (.ref f_is_program) = true)
    (ha_is_edition : PySem.W.nsIn K mainGlobals "_is_edition" = some (some (.ref f_is_edition)))
    (hl_is_edition : K.lookup f_is_edition = some ⟨oc_is_edition, od_is_edition, .func (PySem.W.fnOf "_is_edition" "_is_edition" (defArgs s__is_edition) (defBody s__is_edition) (defScope s__is_edition) .none kV_is_edition dc_is_edition pm_is_edition an_is_edition cd_is_edition ct_is_edition), sl_is_edition⟩)
    (hc_is_edition : PySem.W.codeIn K cd_is_edition "_is_edition" = true)
    (hk_is_edition : PySem.W.keepIn K (.ref f_is_edition) = true)
    (ha_are_rows : PySem.W.nsIn K mainGlobals "_are_rows" = some (some (.ref f_are_rows)))
    (hl_are_rows : K.lookup f_are_rows = some ⟨oc_are_rows, od_are_rows, .func (PySem.W.fnOf "_are_rows" "_are_rows" (defArgs s__are_rows) (defBody s__are_rows) (defScope s__are_rows) .none kV_are_rows dc_are_rows pm_are_rows an_are_rows cd_are_rows ct_are_rows), sl_are_rows⟩)
    (hc_are_rows : PySem.W.codeIn K cd_are_rows "_are_rows" = true)
    (hk_are_rows : PySem.W.keepIn K (.ref f_are_rows) = true)
    (ha_is_read : PySem.W.nsIn K mainGlobals "_is_read" = some (some (.ref f_is_read)))
    (hl_is_read : K.lookup f_is_read = some ⟨oc_is_read, od_is_read, .func (PySem.W.fnOf "_is_read" "_is_read" (defArgs s__is_read) (defBody s__is_read) (defScope s__is_read) .none kV_is_read dc_is_read pm_is_read an_is_read cd_is_read ct_is_read), sl_is_read⟩)
    (hc_is_read : PySem.W.codeIn K cd_is_read "_is_read" = true)
    (hk_is_read : PySem.W.keepIn K (.ref f_is_read) = true)
    (ha_is_write : PySem.W.nsIn K mainGlobals "_is_write" = some (some (.ref f_is_write)))
    (hl_is_write : K.lookup f_is_write = some ⟨oc_is_write, od_is_write, .func (PySem.W.fnOf "_is_write" "_is_write" (defArgs s__is_write) (defBody s__is_write) (defScope s__is_write) .none kV_is_write dc_is_write pm_is_write an_is_write cd_is_write ct_is_write), sl_is_write⟩)
    (hc_is_write : PySem.W.codeIn K cd_is_write "_is_write" = true)
    (hk_is_write : PySem.W.keepIn K (.ref f_is_write) = true)
    (ha_is_first_edition : PySem.W.nsIn K mainGlobals "_is_first_edition" = some (some (.ref f_is_first_edition)))
    (hl_is_first_edition : K.lookup f_is_first_edition = some ⟨oc_is_first_edition, od_is_first_edition, .func (PySem.W.fnOf "_is_first_edition" "_is_first_edition" (defArgs s__is_first_edition) (defBody s__is_first_edition) (defScope s__is_first_edition) .none kV_is_first_edition dc_is_first_edition pm_is_first_edition an_is_first_edition cd_is_first_edition ct_is_first_edition), sl_is_first_edition⟩)
    (hc_is_first_edition : PySem.W.codeIn K cd_is_first_edition "_is_first_edition" = true)
    (hk_is_first_edition : PySem.W.keepIn K (.ref f_is_first_edition) = true)
    (ha_many_in_two_events : PySem.W.nsIn K mainGlobals "_many_in_two_events" = some (some (.ref f_many_in_two_events)))
    (hl_many_in_two_events : K.lookup f_many_in_two_events = some ⟨oc_many_in_two_events, od_many_in_two_events, .func (PySem.W.fnOf "_many_in_two_events" "_many_in_two_events" (defArgs s__many_in_two_events) (defBody s__many_in_two_events) (defScope s__many_in_two_events) .none kV_many_in_two_events dc_many_in_two_events pm_many_in_two_events an_many_in_two_events cd_many_in_two_events ct_many_in_two_events), sl_many_in_two_events⟩)
    (hc_many_in_two_events : PySem.W.codeIn K cd_many_in_two_events "_many_in_two_events" = true)
    (hk_many_in_two_events : PySem.W.keepIn K (.ref f_many_in_two_events) = true)
    (ha_law_pot_of : PySem.W.nsIn K mainGlobals "_law_pot_of" = some (some (.ref f_law_pot_of)))
    (hl_law_pot_of : K.lookup f_law_pot_of = some ⟨oc_law_pot_of, od_law_pot_of, .func (PySem.W.fnOf "_law_pot_of" "_law_pot_of" (defArgs s__law_pot_of) (defBody s__law_pot_of) (defScope s__law_pot_of) .none kV_law_pot_of dc_law_pot_of pm_law_pot_of an_law_pot_of cd_law_pot_of ct_law_pot_of), sl_law_pot_of⟩)
    (hc_law_pot_of : PySem.W.codeIn K cd_law_pot_of "_law_pot_of" = true)
    (hk_law_pot_of : PySem.W.keepIn K (.ref f_law_pot_of) = true)
    (ha_law_take : PySem.W.nsIn K mainGlobals "_law_take" = some (some (.ref f_law_take)))
    (hl_law_take : K.lookup f_law_take = some ⟨oc_law_take, od_law_take, .func (PySem.W.fnOf "_law_take" "_law_take" (defArgs s__law_take) (defBody s__law_take) (defScope s__law_take) .none kV_law_take dc_law_take pm_law_take an_law_take cd_law_take ct_law_take), sl_law_take⟩)
    (hc_law_take : PySem.W.codeIn K cd_law_take "_law_take" = true)
    (hk_law_take : PySem.W.keepIn K (.ref f_law_take) = true)
    (ha_law_of : PySem.W.nsIn K mainGlobals "_law_of" = some (some (.ref f_law_of)))
    (hl_law_of : K.lookup f_law_of = some ⟨oc_law_of, od_law_of, .func (PySem.W.fnOf "_law_of" "_law_of" (defArgs s__law_of) (defBody s__law_of) (defScope s__law_of) .none kV_law_of dc_law_of pm_law_of an_law_of cd_law_of ct_law_of), sl_law_of⟩)
    (hc_law_of : PySem.W.codeIn K cd_law_of "_law_of" = true)
    (hk_law_of : PySem.W.keepIn K (.ref f_law_of) = true)
    (ha_law_some_names : PySem.W.nsIn K mainGlobals "_law_some_names" = some (some (.ref f_law_some_names)))
    (hl_law_some_names : K.lookup f_law_some_names = some ⟨oc_law_some_names, od_law_some_names, .func (PySem.W.fnOf "_law_some_names" "_law_some_names" (defArgs s__law_some_names) (defBody s__law_some_names) (defScope s__law_some_names) .none kV_law_some_names dc_law_some_names pm_law_some_names an_law_some_names cd_law_some_names ct_law_some_names), sl_law_some_names⟩)
    (hc_law_some_names : PySem.W.codeIn K cd_law_some_names "_law_some_names" = true)
    (hk_law_some_names : PySem.W.keepIn K (.ref f_law_some_names) = true)
    (ha_law_reads : PySem.W.nsIn K mainGlobals "_law_reads" = some (some (.ref f_law_reads)))
    (hl_law_reads : K.lookup f_law_reads = some ⟨oc_law_reads, od_law_reads, .func (PySem.W.fnOf "_law_reads" "_law_reads" (defArgs s__law_reads) (defBody s__law_reads) (defScope s__law_reads) .none kV_law_reads dc_law_reads pm_law_reads an_law_reads cd_law_reads ct_law_reads), sl_law_reads⟩)
    (hc_law_reads : PySem.W.codeIn K cd_law_reads "_law_reads" = true)
    (hk_law_reads : PySem.W.keepIn K (.ref f_law_reads) = true)
    (ha_law_writes : PySem.W.nsIn K mainGlobals "_law_writes" = some (some (.ref f_law_writes)))
    (hl_law_writes : K.lookup f_law_writes = some ⟨oc_law_writes, od_law_writes, .func (PySem.W.fnOf "_law_writes" "_law_writes" (defArgs s__law_writes) (defBody s__law_writes) (defScope s__law_writes) .none kV_law_writes dc_law_writes pm_law_writes an_law_writes cd_law_writes ct_law_writes), sl_law_writes⟩)
    (hc_law_writes : PySem.W.codeIn K cd_law_writes "_law_writes" = true)
    (hk_law_writes : PySem.W.keepIn K (.ref f_law_writes) = true)
    (ha_law_editions : PySem.W.nsIn K mainGlobals "_law_editions" = some (some (.ref f_law_editions)))
    (hl_law_editions : K.lookup f_law_editions = some ⟨oc_law_editions, od_law_editions, .func (PySem.W.fnOf "_law_editions" "_law_editions" (defArgs s__law_editions) (defBody s__law_editions) (defScope s__law_editions) .none kV_law_editions dc_law_editions pm_law_editions an_law_editions cd_law_editions ct_law_editions), sl_law_editions⟩)
    (hc_law_editions : PySem.W.codeIn K cd_law_editions "_law_editions" = true)
    (hk_law_editions : PySem.W.keepIn K (.ref f_law_editions) = true)
    (ha_law_world : PySem.W.nsIn K mainGlobals "_law_world" = some (some (.ref f_law_world)))
    (hl_law_world : K.lookup f_law_world = some ⟨oc_law_world, od_law_world, .func (PySem.W.fnOf "_law_world" "_law_world" (defArgs s__law_world) (defBody s__law_world) (defScope s__law_world) .none kV_law_world dc_law_world pm_law_world an_law_world cd_law_world ct_law_world), sl_law_world⟩)
    (hc_law_world : PySem.W.codeIn K cd_law_world "_law_world" = true)
    (hk_law_world : PySem.W.keepIn K (.ref f_law_world) = true)
    (ha_law_made : PySem.W.nsIn K mainGlobals "_law_made" = some (some (.ref f_law_made)))
    (hl_law_made : K.lookup f_law_made = some ⟨oc_law_made, od_law_made, .func (PySem.W.fnOf "_law_made" "_law_made" (defArgs s__law_made) (defBody s__law_made) (defScope s__law_made) .none kV_law_made dc_law_made pm_law_made an_law_made cd_law_made ct_law_made), sl_law_made⟩)
    (hc_law_made : PySem.W.codeIn K cd_law_made "_law_made" = true)
    (hk_law_made : PySem.W.keepIn K (.ref f_law_made) = true)
    (ha_law_is_fit : PySem.W.nsIn K mainGlobals "_law_is_fit" = some (some (.ref f_law_is_fit)))
    (hl_law_is_fit : K.lookup f_law_is_fit = some ⟨oc_law_is_fit, od_law_is_fit, .func (PySem.W.fnOf "_law_is_fit" "_law_is_fit" (defArgs s__law_is_fit) (defBody s__law_is_fit) (defScope s__law_is_fit) .none kV_law_is_fit dc_law_is_fit pm_law_is_fit an_law_is_fit cd_law_is_fit ct_law_is_fit), sl_law_is_fit⟩)
    (hc_law_is_fit : PySem.W.codeIn K cd_law_is_fit "_law_is_fit" = true)
    (hk_law_is_fit : PySem.W.keepIn K (.ref f_law_is_fit) = true)
    (ha_law_span : PySem.W.nsIn K mainGlobals "_law_span" = some (some (.ref f_law_span)))
    (hl_law_span : K.lookup f_law_span = some ⟨oc_law_span, od_law_span, .func (PySem.W.fnOf "_law_span" "_law_span" (defArgs s__law_span) (defBody s__law_span) (defScope s__law_span) .none kV_law_span dc_law_span pm_law_span an_law_span cd_law_span ct_law_span), sl_law_span⟩)
    (hc_law_span : PySem.W.codeIn K cd_law_span "_law_span" = true)
    (hk_law_span : PySem.W.keepIn K (.ref f_law_span) = true)
    (ha_law_first_state : PySem.W.nsIn K mainGlobals "_law_first_state" = some (some (.ref f_law_first_state)))
    (hl_law_first_state : K.lookup f_law_first_state = some ⟨oc_law_first_state, od_law_first_state, .func (PySem.W.fnOf "_law_first_state" "_law_first_state" (defArgs s__law_first_state) (defBody s__law_first_state) (defScope s__law_first_state) .none kV_law_first_state dc_law_first_state pm_law_first_state an_law_first_state cd_law_first_state ct_law_first_state), sl_law_first_state⟩)
    (hc_law_first_state : PySem.W.codeIn K cd_law_first_state "_law_first_state" = true)
    (hk_law_first_state : PySem.W.keepIn K (.ref f_law_first_state) = true)
    (ha_law_column_steps : PySem.W.nsIn K mainGlobals "_law_column_steps" = some (some (.ref f_law_column_steps)))
    (hl_law_column_steps : K.lookup f_law_column_steps = some ⟨oc_law_column_steps, od_law_column_steps, .func (PySem.W.fnOf "_law_column_steps" "_law_column_steps" (defArgs s__law_column_steps) (defBody s__law_column_steps) (defScope s__law_column_steps) .none kV_law_column_steps dc_law_column_steps pm_law_column_steps an_law_column_steps cd_law_column_steps ct_law_column_steps), sl_law_column_steps⟩)
    (hc_law_column_steps : PySem.W.codeIn K cd_law_column_steps "_law_column_steps" = true)
    (hk_law_column_steps : PySem.W.keepIn K (.ref f_law_column_steps) = true)
    (ha_law_span_steps : PySem.W.nsIn K mainGlobals "_law_span_steps" = some (some (.ref f_law_span_steps)))
    (hl_law_span_steps : K.lookup f_law_span_steps = some ⟨oc_law_span_steps, od_law_span_steps, .func (PySem.W.fnOf "_law_span_steps" "_law_span_steps" (defArgs s__law_span_steps) (defBody s__law_span_steps) (defScope s__law_span_steps) .none kV_law_span_steps dc_law_span_steps pm_law_span_steps an_law_span_steps cd_law_span_steps ct_law_span_steps), sl_law_span_steps⟩)
    (hc_law_span_steps : PySem.W.codeIn K cd_law_span_steps "_law_span_steps" = true)
    (hk_law_span_steps : PySem.W.keepIn K (.ref f_law_span_steps) = true)
    (ha_law_menu : PySem.W.nsIn K mainGlobals "_law_menu" = some (some (.ref f_law_menu)))
    (hl_law_menu : K.lookup f_law_menu = some ⟨oc_law_menu, od_law_menu, .func (PySem.W.fnOf "_law_menu" "_law_menu" (defArgs s__law_menu) (defBody s__law_menu) (defScope s__law_menu) .none kV_law_menu dc_law_menu pm_law_menu an_law_menu cd_law_menu ct_law_menu), sl_law_menu⟩)
    (hc_law_menu : PySem.W.codeIn K cd_law_menu "_law_menu" = true)
    (hk_law_menu : PySem.W.keepIn K (.ref f_law_menu) = true)
    (ha_law_odd : PySem.W.nsIn K mainGlobals "_law_odd" = some (some (.ref f_law_odd)))
    (hl_law_odd : K.lookup f_law_odd = some ⟨oc_law_odd, od_law_odd, .func (PySem.W.fnOf "_law_odd" "_law_odd" (defArgs s__law_odd) (defBody s__law_odd) (defScope s__law_odd) .none kV_law_odd dc_law_odd pm_law_odd an_law_odd cd_law_odd ct_law_odd), sl_law_odd⟩)
    (hc_law_odd : PySem.W.codeIn K cd_law_odd "_law_odd" = true)
    (hk_law_odd : PySem.W.keepIn K (.ref f_law_odd) = true)
    (ha_law_fits : PySem.W.nsIn K mainGlobals "_law_fits" = some (some (.ref f_law_fits)))
    (hl_law_fits : K.lookup f_law_fits = some ⟨oc_law_fits, od_law_fits, .func (PySem.W.fnOf "_law_fits" "_law_fits" (defArgs s__law_fits) (defBody s__law_fits) (defScope s__law_fits) .none kV_law_fits dc_law_fits pm_law_fits an_law_fits cd_law_fits ct_law_fits), sl_law_fits⟩)
    (hc_law_fits : PySem.W.codeIn K cd_law_fits "_law_fits" = true)
    (hk_law_fits : PySem.W.keepIn K (.ref f_law_fits) = true)
    (ha_law_is_step : PySem.W.nsIn K mainGlobals "_law_is_step" = some (some (.ref f_law_is_step)))
    (hl_law_is_step : K.lookup f_law_is_step = some ⟨oc_law_is_step, od_law_is_step, .func (PySem.W.fnOf "_law_is_step" "_law_is_step" (defArgs s__law_is_step) (defBody s__law_is_step) (defScope s__law_is_step) .none kV_law_is_step dc_law_is_step pm_law_is_step an_law_is_step cd_law_is_step ct_law_is_step), sl_law_is_step⟩)
    (hc_law_is_step : PySem.W.codeIn K cd_law_is_step "_law_is_step" = true)
    (hk_law_is_step : PySem.W.keepIn K (.ref f_law_is_step) = true)
    (ha_law_values : PySem.W.nsIn K mainGlobals "_law_values" = some (some (.ref f_law_values)))
    (hl_law_values : K.lookup f_law_values = some ⟨oc_law_values, od_law_values, .func (PySem.W.fnOf "_law_values" "_law_values" (defArgs s__law_values) (defBody s__law_values) (defScope s__law_values) .none kV_law_values dc_law_values pm_law_values an_law_values cd_law_values ct_law_values), sl_law_values⟩)
    (hc_law_values : PySem.W.codeIn K cd_law_values "_law_values" = true)
    (hk_law_values : PySem.W.keepIn K (.ref f_law_values) = true)
    (ha_law_right : PySem.W.nsIn K mainGlobals "_law_right" = some (some (.ref f_law_right)))
    (hl_law_right : K.lookup f_law_right = some ⟨oc_law_right, od_law_right, .func (PySem.W.fnOf "_law_right" "_law_right" (defArgs s__law_right) (defBody s__law_right) (defScope s__law_right) .none kV_law_right dc_law_right pm_law_right an_law_right cd_law_right ct_law_right), sl_law_right⟩)
    (hc_law_right : PySem.W.codeIn K cd_law_right "_law_right" = true)
    (hk_law_right : PySem.W.keepIn K (.ref f_law_right) = true)
    (halaw : PySem.W.nsIn K mainGlobals "law" = some (some (.ref flaw)))
    (hllaw : K.lookup flaw = some ⟨oclaw, odlaw, .func (PySem.W.fnOf "law" "law" (defArgs s_law) (defBody s_law) (defScope s_law) .none kVlaw dclaw pmlaw anlaw cdlaw ctlaw), sllaw⟩)
    (hclaw : PySem.W.codeIn K cdlaw "law" = true)
    (hklaw : PySem.W.keepIn K (.ref flaw) = true)
    (hzint : PySem.W.nsIn K mainGlobals "int" = some none)
    (hzlen : PySem.W.nsIn K mainGlobals "len" = some none)
    (hzabs : PySem.W.nsIn K mainGlobals "abs" = some none)
    (hzbool : PySem.W.nsIn K mainGlobals "bool" = some none)
    (hztuple : PySem.W.nsIn K mainGlobals "tuple" = some none)
    (hzisinstance : PySem.W.nsIn K mainGlobals "isinstance" = some none)
    (hzrange : PySem.W.nsIn K mainGlobals "range" = some none)
    (hzmax : PySem.W.nsIn K mainGlobals "max" = some none)
    (hzmin : PySem.W.nsIn K mainGlobals "min" = some none)
    (hzall : PySem.W.nsIn K mainGlobals "all" = some none)
    (hzrepr : PySem.W.nsIn K mainGlobals "repr" = some none)
    (hzstr : PySem.W.nsIn K mainGlobals "str" = some none)
    (hzany : PySem.W.nsIn K mainGlobals "any" = some none)
    (hzlist : PySem.W.nsIn K mainGlobals "list" = some none)
    (hzzip : PySem.W.nsIn K mainGlobals "zip" = some none)
    (hzenumerate : PySem.W.nsIn K mainGlobals "enumerate" = some none) :
    ∃ fd : FuncData, (∀ (s : Shared) (v : Value), BindsTo s fd ⟨[v], []⟩ [("_law_script", v)]) ∧ ∀ base : Heap, K.In base → base.Ns mainGlobals mg → FnG l.prog w K mg base CX0 11 fa fd P_law (spLaw K) := by
  have e := hfa.symm.trans (PySem.W.mg_of X G halaw)
  cases e
  have T : TxD2 mg := ⟨⟨PySem.W.mg_none_of X G hzint, PySem.W.mg_none_of X G hzlen, PySem.W.mg_none_of X G hzabs, PySem.W.mg_none_of X G hzbool, PySem.W.mg_none_of X G hztuple, PySem.W.mg_none_of X G hzisinstance, PySem.W.mg_none_of X G hzrange, PySem.W.mg_none_of X G hzmax, PySem.W.mg_none_of X G hzmin, PySem.W.mg_none_of X G hzall, PySem.W.mg_none_of X G hzrepr, PySem.W.mg_none_of X G hzstr, PySem.W.mg_none_of X G hzany, PySem.W.mg_none_of X G hzlist, PySem.W.mg_none_of X G hzzip, PySem.W.mg_none_of X G hzenumerate⟩, PySem.W.mg_none_of X G hzdict⟩
  have Feditions_of := fun_mk (st := s_editions_of) hleditions_of hceditions_of hkeditions_of
  have beditions_of := Feditions_of.binds (ps := P_editions_of) fun _ _ _ _ _ _ us hl => match us, hl with | [_, _], _ => rfl
  have Fis_integer := fun_mk (st := s_is_integer) hlis_integer hcis_integer hkis_integer
  have bis_integer := Fis_integer.binds (ps := P_is_integer) fun _ _ _ _ _ _ us hl => match us, hl with | [_], _ => rfl
  have Fis_between := fun_mk (st := s_is_between) hlis_between hcis_between hkis_between
  have bis_between := Fis_between.binds (ps := P_is_between) fun _ _ _ _ _ _ us hl => match us, hl with | [_, _, _], _ => rfl
  have Fis_name := fun_mk (st := s_is_name) hlis_name hcis_name hkis_name
  have bis_name := Fis_name.binds (ps := P_is_name) fun _ _ _ _ _ _ us hl => match us, hl with | [_], _ => rfl
  have Fis_tuple_of := fun_mk (st := s_is_tuple_of) hlis_tuple_of hcis_tuple_of hkis_tuple_of
  have bis_tuple_of := Fis_tuple_of.binds (ps := P_is_tuple_of) fun _ _ _ _ _ _ us hl => match us, hl with | [_, _, _], _ => rfl
  have Fis_ascending := fun_mk (st := s_is_ascending) hlis_ascending hcis_ascending hkis_ascending
  have bis_ascending := Fis_ascending.binds (ps := P_is_ascending) fun _ _ _ _ _ _ us hl => match us, hl with | [_], _ => rfl
  have Fstep_form := fun_mk (st := s_step_form) hlstep_form hcstep_form hkstep_form
  have bstep_form := Fstep_form.binds (ps := P_step_form) fun _ _ _ _ _ _ us hl => match us, hl with | [_], _ => rfl
  have Fis_plain_part := fun_mk (st := s_is_plain_part) hlis_plain_part hcis_plain_part hkis_plain_part
  have bis_plain_part := Fis_plain_part.binds (ps := P_is_plain_part) fun _ _ _ _ _ _ us hl => match us, hl with | [_, _], _ => rfl
  have Fis_count := fun_mk (st := s_is_count) hlis_count hcis_count hkis_count
  have bis_count := Fis_count.binds (ps := P_is_count) fun _ _ _ _ _ _ us hl => match us, hl with | [_], _ => rfl
  have F_first_word := fun_mk (st := s__first_word) hl_first_word hc_first_word hk_first_word
  have b_first_word := F_first_word.binds (ps := P__first_word) fun _ _ _ _ _ _ us hl => match us, hl with | [_], _ => rfl
  have Fis_step := fun_mk (st := s_is_step) hlis_step hcis_step hkis_step
  have bis_step := Fis_step.binds (ps := P_is_step) fun _ _ _ _ _ _ us hl => match us, hl with | [_, _], _ => rfl
  have Fare_parts := fun_mk (st := s_are_parts) hlare_parts hcare_parts hkare_parts
  have bare_parts := Fare_parts.binds (ps := P_are_parts) fun _ _ _ _ _ _ us hl => match us, hl with | [_, _, _], _ => rfl
  have F_is_part := fun_mk (st := s__is_part) hl_is_part hc_is_part hk_is_part
  have b_is_part := F_is_part.binds (ps := P__is_part) fun _ _ _ _ _ _ us hl => match us, hl with | [_, _, _], _ => rfl
  have FKind___init__ := fun_mk (st := s_Kind___init__) hlKind___init__ hcKind___init__ hkKind___init__
  have bKind___init__ := FKind___init__.binds (ps := P_Kind___init__) fun _ _ _ _ _ _ us hl => match us, hl with | [_, _, _], _ => rfl
  have FKind___eq__ := fun_mk (st := s_Kind___eq__) hlKind___eq__ hcKind___eq__ hkKind___eq__
  have bKind___eq__ := FKind___eq__.binds (ps := P_Kind___eq__) fun _ _ _ _ _ _ us hl => match us, hl with | [_, _], _ => rfl
  have FKind___le__ := fun_mk (st := s_Kind___le__) hlKind___le__ hcKind___le__ hkKind___le__
  have bKind___le__ := FKind___le__.binds (ps := P_Kind___le__) fun _ _ _ _ _ _ us hl => match us, hl with | [_, _], _ => rfl
  have FKind___lt__ := fun_mk (st := s_Kind___lt__) hlKind___lt__ hcKind___lt__ hkKind___lt__
  have bKind___lt__ := FKind___lt__.binds (ps := P_Kind___lt__) fun _ _ _ _ _ _ us hl => match us, hl with | [_, _], _ => rfl
  have FWorld___init__ := fun_mk (st := s_World___init__) hlWorld___init__ hcWorld___init__ hkWorld___init__
  have bWorld___init__ := FWorld___init__.binds (ps := P_World___init__) fun _ _ _ _ _ _ us hl => match us, hl with | [_, _, _, _, _], _ => rfl
  have F_are_kinds := fun_mk (st := s__are_kinds) hl_are_kinds hc_are_kinds hk_are_kinds
  have b_are_kinds := F_are_kinds.binds (ps := P__are_kinds) fun _ _ _ _ _ _ us hl => match us, hl with | [_, _], _ => rfl
  have F_are_columns := fun_mk (st := s__are_columns) hl_are_columns hc_are_columns hk_are_columns
  have b_are_columns := F_are_columns.binds (ps := P__are_columns) fun _ _ _ _ _ _ us hl => match us, hl with | [_], _ => rfl
  have F_are_programs := fun_mk (st := s__are_programs) hl_are_programs hc_are_programs hk_are_programs
  have b_are_programs := F_are_programs.binds (ps := P__are_programs) fun _ _ _ _ _ _ us hl => match us, hl with | [_, _], _ => rfl
  have F_is_program := fun_mk (st := s__is_program) hl_is_program hc_is_program hk_is_program
  have b_is_program := F_is_program.binds (ps := P__is_program) fun _ _ _ _ _ _ us hl => match us, hl with | [_, _], _ => rfl
  have F_is_edition := fun_mk (st := s__is_edition) hl_is_edition hc_is_edition hk_is_edition
  have b_is_edition := F_is_edition.binds (ps := P__is_edition) fun _ _ _ _ _ _ us hl => match us, hl with | [_, _], _ => rfl
  have F_are_rows := fun_mk (st := s__are_rows) hl_are_rows hc_are_rows hk_are_rows
  have b_are_rows := F_are_rows.binds (ps := P__are_rows) fun _ _ _ _ _ _ us hl => match us, hl with | [_, _, _], _ => rfl
  have F_is_read := fun_mk (st := s__is_read) hl_is_read hc_is_read hk_is_read
  have b_is_read := F_is_read.binds (ps := P__is_read) fun _ _ _ _ _ _ us hl => match us, hl with | [_], _ => rfl
  have F_is_write := fun_mk (st := s__is_write) hl_is_write hc_is_write hk_is_write
  have b_is_write := F_is_write.binds (ps := P__is_write) fun _ _ _ _ _ _ us hl => match us, hl with | [_, _], _ => rfl
  have F_is_first_edition := fun_mk (st := s__is_first_edition) hl_is_first_edition hc_is_first_edition hk_is_first_edition
  have b_is_first_edition := F_is_first_edition.binds (ps := P__is_first_edition) fun _ _ _ _ _ _ us hl => match us, hl with | [_], _ => rfl
  have F_many_in_two_events := fun_mk (st := s__many_in_two_events) hl_many_in_two_events hc_many_in_two_events hk_many_in_two_events
  have b_many_in_two_events := F_many_in_two_events.binds (ps := P__many_in_two_events) fun _ _ _ _ _ _ us hl => match us, hl with | [_], _ => rfl
  have F_law_pot_of := fun_mk (st := s__law_pot_of) hl_law_pot_of hc_law_pot_of hk_law_pot_of
  have b_law_pot_of := F_law_pot_of.binds (ps := P__law_pot_of) fun _ _ _ _ _ _ us hl => match us, hl with | [_, _], _ => rfl
  have F_law_take := fun_mk (st := s__law_take) hl_law_take hc_law_take hk_law_take
  have b_law_take := F_law_take.binds (ps := P__law_take) fun _ _ _ _ _ _ us hl => match us, hl with | [_, _], _ => rfl
  have F_law_of := fun_mk (st := s__law_of) hl_law_of hc_law_of hk_law_of
  have b_law_of := F_law_of.binds (ps := P__law_of) fun _ _ _ _ _ _ us hl => match us, hl with | [_, _], _ => rfl
  have F_law_some_names := fun_mk (st := s__law_some_names) hl_law_some_names hc_law_some_names hk_law_some_names
  have b_law_some_names := F_law_some_names.binds (ps := P__law_some_names) fun _ _ _ _ _ _ us hl => match us, hl with | [_, _], _ => rfl
  have F_law_reads := fun_mk (st := s__law_reads) hl_law_reads hc_law_reads hk_law_reads
  have b_law_reads := F_law_reads.binds (ps := P__law_reads) fun _ _ _ _ _ _ us hl => match us, hl with | [_, _, _, _], _ => rfl
  have F_law_writes := fun_mk (st := s__law_writes) hl_law_writes hc_law_writes hk_law_writes
  have b_law_writes := F_law_writes.binds (ps := P__law_writes) fun _ _ _ _ _ _ us hl => match us, hl with | [_, _, _, _, _], _ => rfl
  have F_law_editions := fun_mk (st := s__law_editions) hl_law_editions hc_law_editions hk_law_editions
  have b_law_editions := F_law_editions.binds (ps := P__law_editions) fun _ _ _ _ _ _ us hl => match us, hl with | [_, _, _], _ => rfl
  have F_law_world := fun_mk (st := s__law_world) hl_law_world hc_law_world hk_law_world
  have b_law_world := F_law_world.binds (ps := P__law_world) fun _ _ _ _ _ _ us hl => match us, hl with | [_], _ => rfl
  have F_law_made := fun_mk (st := s__law_made) hl_law_made hc_law_made hk_law_made
  have b_law_made := F_law_made.binds (ps := P__law_made) fun _ _ _ _ _ _ us hl => match us, hl with | [_], _ => rfl
  have F_law_is_fit := fun_mk (st := s__law_is_fit) hl_law_is_fit hc_law_is_fit hk_law_is_fit
  have b_law_is_fit := F_law_is_fit.binds (ps := P__law_is_fit) fun _ _ _ _ _ _ us hl => match us, hl with | [_, _, _], _ => rfl
  have F_law_span := fun_mk (st := s__law_span) hl_law_span hc_law_span hk_law_span
  have b_law_span := F_law_span.binds (ps := P__law_span) fun _ _ _ _ _ _ us hl => match us, hl with | [_, _], _ => rfl
  have F_law_first_state := fun_mk (st := s__law_first_state) hl_law_first_state hc_law_first_state hk_law_first_state
  have b_law_first_state := F_law_first_state.binds (ps := P__law_first_state) fun _ _ _ _ _ _ us hl => match us, hl with | [_, _], _ => rfl
  have F_law_column_steps := fun_mk (st := s__law_column_steps) hl_law_column_steps hc_law_column_steps hk_law_column_steps
  have b_law_column_steps := F_law_column_steps.binds (ps := P__law_column_steps) fun _ _ _ _ _ _ us hl => match us, hl with | [_, _], _ => rfl
  have F_law_span_steps := fun_mk (st := s__law_span_steps) hl_law_span_steps hc_law_span_steps hk_law_span_steps
  have b_law_span_steps := F_law_span_steps.binds (ps := P__law_span_steps) fun _ _ _ _ _ _ us hl => match us, hl with | [_, _], _ => rfl
  have F_law_menu := fun_mk (st := s__law_menu) hl_law_menu hc_law_menu hk_law_menu
  have b_law_menu := F_law_menu.binds (ps := P__law_menu) fun _ _ _ _ _ _ us hl => match us, hl with | [_, _], _ => rfl
  have F_law_odd := fun_mk (st := s__law_odd) hl_law_odd hc_law_odd hk_law_odd
  have b_law_odd := F_law_odd.binds (ps := P__law_odd) fun _ _ _ _ _ _ us hl => match us, hl with | [_, _], _ => rfl
  have F_law_fits := fun_mk (st := s__law_fits) hl_law_fits hc_law_fits hk_law_fits
  have b_law_fits := F_law_fits.binds (ps := P__law_fits) fun _ _ _ _ _ _ us hl => match us, hl with | [_, _, _], _ => rfl
  have F_law_is_step := fun_mk (st := s__law_is_step) hl_law_is_step hc_law_is_step hk_law_is_step
  have b_law_is_step := F_law_is_step.binds (ps := P__law_is_step) fun _ _ _ _ _ _ us hl => match us, hl with | [_, _], _ => rfl
  have F_law_values := fun_mk (st := s__law_values) hl_law_values hc_law_values hk_law_values
  have b_law_values := F_law_values.binds (ps := P__law_values) fun _ _ _ _ _ _ us hl => match us, hl with | [_, _], _ => rfl
  have F_law_right := fun_mk (st := s__law_right) hl_law_right hc_law_right hk_law_right
  have b_law_right := F_law_right.binds (ps := P__law_right) fun _ _ _ _ _ _ us hl => match us, hl with | [_], _ => rfl
  have Flaw := fun_mk (st := s_law) hllaw hclaw hklaw
  refine ⟨PySem.W.fnOf "law" "law" (defArgs s_law) (defBody s_law) (defScope s_law) .none kVlaw dclaw pmlaw anlaw cdlaw ctlaw, fun s v => .of_eq rfl, fun base _ _ => ?_⟩
  have GT_SIDES : GTup K mg "SIDES" a_SIDES (["narrow", "wide"] : List Str) := ⟨PySem.W.mg_of X G hu0SIDES, tupW_sq hu1SIDES (by decide)⟩
  have GT_RULES : GTup K mg "RULES" a_RULES (["cut", "empty", "refuse"] : List Str) := ⟨PySem.W.mg_of X G hu0RULES, tupW_sq hu1RULES (by decide)⟩
  have GT_MANNERS : GTup K mg "MANNERS" a_MANNERS (["empty", "anew"] : List Str) := ⟨PySem.W.mg_of X G hu0MANNERS, tupW_sq hu1MANNERS (by decide)⟩
  have GT_DEEDS : GTup K mg "DEEDS" a_DEEDS (["match", "order", "show"] : List Str) := ⟨PySem.W.mg_of X G hu0DEEDS, tupW_sq hu1DEEDS (by decide)⟩
  have GT_READ_SIDES : GTup K mg "READ_SIDES" a_READ_SIDES (["narrow", "wide", "either"] : List Str) := ⟨PySem.W.mg_of X G hu0READ_SIDES, tupW_sq hu1READ_SIDES (by decide)⟩
  have GT_HOWS : GTup K mg "HOWS" a_HOWS (["narrow", "wide", "both", "narrow first", "wide first"] : List Str) := ⟨PySem.W.mg_of X G hu0HOWS, tupW_sq hu1HOWS (by decide)⟩
  have GT_IN_TWO_EVENTS : GTup K mg "IN_TWO_EVENTS" a_IN_TWO_EVENTS (["narrow first", "wide first"] : List Str) := ⟨PySem.W.mg_of X G hu0IN_TWO_EVENTS, tupW_sq hu1IN_TWO_EVENTS (by decide)⟩
  have KT_STEP_FORMS : GTab K w mg "STEP_FORMS" a_STEP_FORMS t_STEP_FORMS := gtab_of (PySem.W.mg_of X G hv0STEP_FORMS) hv1STEP_FORMS hv2STEP_FORMS
  have n_sorted : mg "sorted" = none := PySem.W.mg_none_of X G hzsorted
  have TN : TxN mg n_MOST_LETTERS n_LEAST_NARROW n_MOST_PACE n_MOST_IN_TWO_EVENTS := ⟨PySem.W.mg_of X G hgnMOST_LETTERS, PySem.W.mg_of X G hgnLEAST_NARROW, PySem.W.mg_of X G hgnMOST_PACE, PySem.W.mg_of X G hgnMOST_IN_TWO_EVENTS⟩
  obtain ⟨κ, κ_World, κ_Kind⟩ : ∃ κ : String → Addr, κ "World" = C_World ∧ κ "Kind" = C_Kind := ⟨fun n => if n = "World" then C_World else if n = "Kind" then C_Kind else C_World, if_pos rfl, (if_neg (by decide)).trans (if_pos rfl)⟩
  subst κ_World κ_Kind
  have CT_World : ClsI K mg ⟨K, κ⟩ "World" "World" ["narrow", "wide", "columns", "programs"] := ⟨⟨⟨hpgWorld, hhdWorld, hpoWorld, hsaWorld⟩, fun f m => by
    simp only [List.mem_cons, List.not_mem_nil, or_false] at m
    rcases m with rfl | rfl | rfl | rfl
    · exact hnWorld_narrow
    · exact hnWorld_wide
    · exact hnWorld_columns
    · exact hnWorld_programs⟩, ⟨⟨hpgWorld, hhdWorld, hpoWorld, hsaWorld⟩, hx1World, heW4, heW5, hx4World, if_pos (beq_self_eq_true _)⟩, PySem.W.mg_of X G haCWorld⟩
  have CT_Kind : ClsI K mg ⟨K, κ⟩ "Kind" "Kind" ["low", "high", "size"] := ⟨⟨⟨hpgKind, hhdKind, hpoKind, hsaKind⟩, fun f m => by
    simp only [List.mem_cons, List.not_mem_nil, or_false] at m
    rcases m with rfl | rfl | rfl
    · exact hnKind_low
    · exact hnKind_high
    · exact hnKind_size⟩, ⟨⟨hpgKind, hhdKind, hpoKind, hsaKind⟩, hx1Kind, heW4, heW5, hx4Kind, if_pos (beq_self_eq_true _)⟩, PySem.W.mg_of X G haCKind⟩
  have gL_is_integer : FnOk l.prog w K mg base CX0 1 fis_integer _ P_is_integer (spD ⟨K, κ⟩ 1 L_is_integer) := ok_is_integer Fis_integer T 
  have cL_is_integer : Cal l.prog w K mg base 1 "is_integer" P_is_integer (spD ⟨K, κ⟩ 1 L_is_integer) := ⟨fis_integer, _, gL_is_integer, bis_integer, PySem.W.mg_of X G hais_integer, hkis_integer⟩
  have gL_is_between : FnOk l.prog w K mg base CX0 2 fis_between _ P_is_between (spD ⟨K, κ⟩ 3 L_is_between) := ok_is_between Fis_between T cL_is_integer
  have cL_is_between : Cal l.prog w K mg base 2 "is_between" P_is_between (spD ⟨K, κ⟩ 3 L_is_between) := ⟨fis_between, _, gL_is_between, bis_between, PySem.W.mg_of X G hais_between, hkis_between⟩
  have gL_is_name : FnOk l.prog w K mg base CX0 1 fis_name _ P_is_name (spD ⟨K, κ⟩ 1 L_is_name) := ok_is_name Fis_name T TN 
  have cL_is_name : Cal l.prog w K mg base 1 "is_name" P_is_name (spD ⟨K, κ⟩ 1 L_is_name) := ⟨fis_name, _, gL_is_name, bis_name, PySem.W.mg_of X G hais_name, hkis_name⟩
  have gL_is_tuple_of : FnOk l.prog w K mg base CX0 1 fis_tuple_of _ P_is_tuple_of (spD ⟨K, κ⟩ 3 L_is_tuple_of) := ok_is_tuple_of Fis_tuple_of T 
  have cL_is_tuple_of : Cal l.prog w K mg base 1 "is_tuple_of" P_is_tuple_of (spD ⟨K, κ⟩ 3 L_is_tuple_of) := ⟨fis_tuple_of, _, gL_is_tuple_of, bis_tuple_of, PySem.W.mg_of X G hais_tuple_of, hkis_tuple_of⟩
  have gL_is_ascending : FnOk l.prog w K mg base CX0 1 fis_ascending _ P_is_ascending (spD ⟨K, κ⟩ 1 L_is_ascending) := ok_is_ascending Fis_ascending T 
  have cL_is_ascending : Cal l.prog w K mg base 1 "is_ascending" P_is_ascending (spD ⟨K, κ⟩ 1 L_is_ascending) := ⟨fis_ascending, _, gL_is_ascending, bis_ascending, PySem.W.mg_of X G hais_ascending, hkis_ascending⟩
  have gL_is_ascendingT : FnOk l.prog w K mg base CX0 1 fis_ascending _ P_is_ascending (spD ⟨K, κ⟩ 1 L_is_ascendingT) := ok_is_ascendingT Fis_ascending T 
  have cL_is_ascendingT : Cal l.prog w K mg base 1 "is_ascending" P_is_ascending (spD ⟨K, κ⟩ 1 L_is_ascendingT) := ⟨fis_ascending, _, gL_is_ascendingT, bis_ascending, PySem.W.mg_of X G hais_ascending, hkis_ascending⟩
  have gL_is_count : FnOk l.prog w K mg base CX0 2 fis_count _ P_is_count (spD ⟨K, κ⟩ 1 L_is_count) := ok_is_count Fis_count T cL_is_integer
  have cL_is_count : Cal l.prog w K mg base 2 "is_count" P_is_count (spD ⟨K, κ⟩ 1 L_is_count) := ⟨fis_count, _, gL_is_count, bis_count, PySem.W.mg_of X G hais_count, hkis_count⟩
  have gL_is_plain_part : FnOk l.prog w K mg base CX0 3 fis_plain_part _ P_is_plain_part (spD ⟨K, κ⟩ 2 L_is_plain_part) := ok_is_plain_part Fis_plain_part T GT_SIDES GT_RULES GT_MANNERS cL_is_integer cL_is_count
  have cL_is_plain_part : Cal l.prog w K mg base 3 "is_plain_part" P_is_plain_part (spD ⟨K, κ⟩ 2 L_is_plain_part) := ⟨fis_plain_part, _, gL_is_plain_part, bis_plain_part, PySem.W.mg_of X G hais_plain_part, hkis_plain_part⟩
  have gL__first_word : FnOk l.prog w K mg base CX0 1 f_first_word _ P__first_word (spD ⟨K, κ⟩ 1 L__first_word) := ok__first_word F_first_word T 
  have cL__first_word : Cal l.prog w K mg base 1 "_first_word" P__first_word (spD ⟨K, κ⟩ 1 L__first_word) := ⟨f_first_word, _, gL__first_word, b_first_word, PySem.W.mg_of X G ha_first_word, hk_first_word⟩
  have gL_step_form : FnOk l.prog w K mg base CX0 2 fstep_form _ P_step_form (spD ⟨K, κ⟩ 1 L_step_form) := ok_step_form Fstep_form T KT_STEP_FORMS cL__first_word
  have cL_step_form : Cal l.prog w K mg base 2 "step_form" P_step_form (spD ⟨K, κ⟩ 1 L_step_form) := ⟨fstep_form, _, gL_step_form, bstep_form, PySem.W.mg_of X G hastep_form, hkstep_form⟩
  have gL_editions_of : FnOk l.prog w K mg base CX0 1 feditions_of _ P_editions_of (spD ⟨K, κ⟩ 2 L_editions_of) := ok_editions_of Feditions_of T CT_World
  have cL_editions_of : Cal l.prog w K mg base 1 "editions_of" P_editions_of (spD ⟨K, κ⟩ 2 L_editions_of) := ⟨feditions_of, _, gL_editions_of, beditions_of, PySem.W.mg_of X G haeditions_of, hkeditions_of⟩
  have gL_Kind___init__ : FnOk l.prog w K mg base CX0 2 fKind___init__ _ P_Kind___init__ (spD ⟨K, κ⟩ 3 L_Kind___init__) := ok_Kind___init__ FKind___init__ T cL_is_integer CT_Kind
  have cL_Kind___init__ : MkI l.prog w K mg base ⟨K, κ⟩ 2 "Kind" "Kind" P_Kind___init__ (spD ⟨K, κ⟩ 3 L_Kind___init__) := ⟨fKind___init__, _, ⟨hmkKind, haKind___init__, hiKind___init__, hkcKind⟩, gL_Kind___init__, bKind___init__, CT_Kind.g⟩
  have gL_Kind___le__ : FnOk l.prog w K mg base CX0 1 fKind___le__ _ P_Kind___le__ (spD ⟨K, κ⟩ 2 L_Kind___le__) := ok_Kind___le__ FKind___le__ T CT_Kind
  have cL_Kind___le__ : MeI l.prog w K mg base ⟨K, κ⟩ 1 "Kind" "__le__" P_Kind___le__ (spD ⟨K, κ⟩ 2 L_Kind___le__) := ⟨fKind___le__, _, ⟨haKind___le__, hiKind___le__, hkKind___le__⟩, gL_Kind___le__, bKind___le__⟩
  have gL_Kind___eq__ : FnOk l.prog w K mg base CX0 1 fKind___eq__ _ P_Kind___eq__ (spD ⟨K, κ⟩ 2 L_Kind___eq__) := ok_Kind___eq__ FKind___eq__ T CT_Kind
  have cL_Kind___eq__ : MeI l.prog w K mg base ⟨K, κ⟩ 1 "Kind" "__eq__" P_Kind___eq__ (spD ⟨K, κ⟩ 2 L_Kind___eq__) := ⟨fKind___eq__, _, ⟨haKind___eq__, hiKind___eq__, hkKind___eq__⟩, gL_Kind___eq__, bKind___eq__⟩
  have gL_Kind___lt__ : FnOk l.prog w K mg base CX0 2 fKind___lt__ _ P_Kind___lt__ (spD ⟨K, κ⟩ 2 L_Kind___lt__) := ok_Kind___lt__ FKind___lt__ T CT_Kind cL_Kind___le__ cL_Kind___eq__
  have cL_Kind___lt__ : MeI l.prog w K mg base ⟨K, κ⟩ 2 "Kind" "__lt__" P_Kind___lt__ (spD ⟨K, κ⟩ 2 L_Kind___lt__) := ⟨fKind___lt__, _, ⟨haKind___lt__, hiKind___lt__, hkKind___lt__⟩, gL_Kind___lt__, bKind___lt__⟩
  have gL__are_kinds : FnOk l.prog w K mg base CX0 3 f_are_kinds _ P__are_kinds (spD ⟨K, κ⟩ 2 L__are_kinds) := ok__are_kinds F_are_kinds T TN CT_Kind cL_Kind___lt__
  have cL__are_kinds : Cal l.prog w K mg base 3 "_are_kinds" P__are_kinds (spD ⟨K, κ⟩ 2 L__are_kinds) := ⟨f_are_kinds, _, gL__are_kinds, b_are_kinds, PySem.W.mg_of X G ha_are_kinds, hk_are_kinds⟩
  have gL__are_columns : FnOk l.prog w K mg base CX0 2 f_are_columns _ P__are_columns (spD ⟨K, κ⟩ 1 L__are_columns) := ok__are_columns F_are_columns T cL_is_tuple_of cL_is_name cL_is_ascendingT
  have cL__are_columns : Cal l.prog w K mg base 2 "_are_columns" P__are_columns (spD ⟨K, κ⟩ 1 L__are_columns) := ⟨f_are_columns, _, gL__are_columns, b_are_columns, PySem.W.mg_of X G ha_are_columns, hk_are_columns⟩
  have gL__are_rows : FnOk l.prog w K mg base CX0 2 f_are_rows _ P__are_rows (spD ⟨K, κ⟩ 3 L__are_rows) := ok__are_rows F_are_rows T cL_is_tuple_of cL_is_ascending
  have cL__are_rows : Cal l.prog w K mg base 2 "_are_rows" P__are_rows (spD ⟨K, κ⟩ 3 L__are_rows) := ⟨f_are_rows, _, gL__are_rows, b_are_rows, PySem.W.mg_of X G ha_are_rows, hk_are_rows⟩
  have gL__is_read : FnOk l.prog w K mg base CX0 2 f_is_read _ P__is_read (spD ⟨K, κ⟩ 1 L__is_read) := ok__is_read F_is_read T GT_DEEDS GT_READ_SIDES cL_is_ascendingT
  have cL__is_read : Cal l.prog w K mg base 2 "_is_read" P__is_read (spD ⟨K, κ⟩ 1 L__is_read) := ⟨f_is_read, _, gL__is_read, b_is_read, PySem.W.mg_of X G ha_is_read, hk_is_read⟩
  have gL__is_write : FnOk l.prog w K mg base CX0 3 f_is_write _ P__is_write (spD ⟨K, κ⟩ 2 L__is_write) := ok__is_write F_is_write T GT_RULES GT_HOWS TN cL_is_between
  have cL__is_write : Cal l.prog w K mg base 3 "_is_write" P__is_write (spD ⟨K, κ⟩ 2 L__is_write) := ⟨f_is_write, _, gL__is_write, b_is_write, PySem.W.mg_of X G ha_is_write, hk_is_write⟩
  have gL__is_edition : FnOk l.prog w K mg base CX0 4 f_is_edition _ P__is_edition (spD ⟨K, κ⟩ 2 L__is_edition) := ok__is_edition F_is_edition T GT_SIDES cL_is_tuple_of cL__are_rows cL__is_read cL__is_write
  have cL__is_edition : Cal l.prog w K mg base 4 "_is_edition" P__is_edition (spD ⟨K, κ⟩ 2 L__is_edition) := ⟨f_is_edition, _, gL__is_edition, b_is_edition, PySem.W.mg_of X G ha_is_edition, hk_is_edition⟩
  have gL__is_first_edition : FnOk l.prog w K mg base CX0 1 f_is_first_edition _ P__is_first_edition (spD ⟨K, κ⟩ 1 L__is_first_edition) := ok__is_first_edition F_is_first_edition T 
  have cL__is_first_edition : Cal l.prog w K mg base 1 "_is_first_edition" P__is_first_edition (spD ⟨K, κ⟩ 1 L__is_first_edition) := ⟨f_is_first_edition, _, gL__is_first_edition, b_is_first_edition, PySem.W.mg_of X G ha_is_first_edition, hk_is_first_edition⟩
  have gL__is_program : FnOk l.prog w K mg base CX0 5 f_is_program _ P__is_program (spD ⟨K, κ⟩ 2 L__is_program) := ok__is_program F_is_program T cL_is_tuple_of cL_is_name cL__is_edition cL__is_first_edition
  have cL__is_program : Cal l.prog w K mg base 5 "_is_program" P__is_program (spD ⟨K, κ⟩ 2 L__is_program) := ⟨f_is_program, _, gL__is_program, b_is_program, PySem.W.mg_of X G ha_is_program, hk_is_program⟩
  have gL__many_in_two_events : FnOk l.prog w K mg base CX0 1 f_many_in_two_events _ P__many_in_two_events (spD ⟨K, κ⟩ 1 L__many_in_two_events) := ok__many_in_two_events F_many_in_two_events T GT_IN_TWO_EVENTS 
  have cL__many_in_two_events : Cal l.prog w K mg base 1 "_many_in_two_events" P__many_in_two_events (spD ⟨K, κ⟩ 1 L__many_in_two_events) := ⟨f_many_in_two_events, _, gL__many_in_two_events, b_many_in_two_events, PySem.W.mg_of X G ha_many_in_two_events, hk_many_in_two_events⟩
  have gL__are_programs : FnOk l.prog w K mg base CX0 6 f_are_programs _ P__are_programs (spD ⟨K, κ⟩ 2 L__are_programs) := ok__are_programs F_are_programs T TN cL_is_tuple_of cL__is_program cL_is_ascending cL__many_in_two_events
  have cL__are_programs : Cal l.prog w K mg base 6 "_are_programs" P__are_programs (spD ⟨K, κ⟩ 2 L__are_programs) := ⟨f_are_programs, _, gL__are_programs, b_are_programs, PySem.W.mg_of X G ha_are_programs, hk_are_programs⟩
  have gL_World___init__ : FnOk l.prog w K mg base CX0 7 fWorld___init__ _ P_World___init__ (spD ⟨K, κ⟩ 5 L_World___init__) := ok_World___init__ FWorld___init__ T cL__are_kinds cL__are_columns cL__are_programs CT_World
  have cL_World___init__ : MkI l.prog w K mg base ⟨K, κ⟩ 7 "World" "World" P_World___init__ (spD ⟨K, κ⟩ 5 L_World___init__) := ⟨fWorld___init__, _, ⟨hmkWorld, haWorld___init__, hiWorld___init__, hkcWorld⟩, gL_World___init__, bWorld___init__, CT_World.g⟩
  have gL__is_part : FnOk l.prog w K mg base CX0 4 f_is_part _ P__is_part (spD ⟨K, κ⟩ 3 L__is_part) := ok__is_part F_is_part T CT_World cL_editions_of cL_is_plain_part
  have cL__is_part : Cal l.prog w K mg base 4 "_is_part" P__is_part (spD ⟨K, κ⟩ 3 L__is_part) := ⟨f_is_part, _, gL__is_part, b_is_part, PySem.W.mg_of X G ha_is_part, hk_is_part⟩
  have gL_are_parts : FnOk l.prog w K mg base CX0 5 fare_parts _ P_are_parts (spD ⟨K, κ⟩ 3 L_are_parts) := ok_are_parts Fare_parts T cL__is_part
  have cL_are_parts : Cal l.prog w K mg base 5 "are_parts" P_are_parts (spD ⟨K, κ⟩ 3 L_are_parts) := ⟨fare_parts, _, gL_are_parts, bare_parts, PySem.W.mg_of X G haare_parts, hkare_parts⟩
  have gL_is_step : FnOk l.prog w K mg base CX0 6 fis_step _ P_is_step (spD ⟨K, κ⟩ 2 L_is_step) := ok_is_step Fis_step T cL_step_form cL_are_parts
  have cL_is_step : Cal l.prog w K mg base 6 "is_step" P_is_step (spD ⟨K, κ⟩ 2 L_is_step) := ⟨fis_step, _, gL_is_step, bis_step, PySem.W.mg_of X G hais_step, hkis_step⟩
  have gL__law_pot_of : FnOk l.prog w K mg base CX0 1 f_law_pot_of _ P__law_pot_of (spD ⟨K, κ⟩ 2 L__law_pot_of) := ok__law_pot_of F_law_pot_of T 
  have cL__law_pot_of : Cal l.prog w K mg base 1 "_law_pot_of" P__law_pot_of (spD ⟨K, κ⟩ 2 L__law_pot_of) := ⟨f_law_pot_of, _, gL__law_pot_of, b_law_pot_of, PySem.W.mg_of X G ha_law_pot_of, hk_law_pot_of⟩
  have gL__law_take : FnOk l.prog w K mg base CX0 1 f_law_take _ P__law_take (spD ⟨K, κ⟩ 2 L__law_take) := ok__law_take F_law_take T 
  have cL__law_take : Cal l.prog w K mg base 1 "_law_take" P__law_take (spD ⟨K, κ⟩ 2 L__law_take) := ⟨f_law_take, _, gL__law_take, b_law_take, PySem.W.mg_of X G ha_law_take, hk_law_take⟩
  have gL__law_of : FnOk l.prog w K mg base CX0 2 f_law_of _ P__law_of (spD ⟨K, κ⟩ 2 L__law_of) := ok__law_of F_law_of T cL__law_take
  have cL__law_of : Cal l.prog w K mg base 2 "_law_of" P__law_of (spD ⟨K, κ⟩ 2 L__law_of) := ⟨f_law_of, _, gL__law_of, b_law_of, PySem.W.mg_of X G ha_law_of, hk_law_of⟩
  have gL__law_some_names : FnOk l.prog w K mg base CX0 2 f_law_some_names _ P__law_some_names (spD ⟨K, κ⟩ 2 L__law_some_names) := ok__law_some_names F_law_some_names T n_sorted cL__law_take
  have cL__law_some_names : Cal l.prog w K mg base 2 "_law_some_names" P__law_some_names (spD ⟨K, κ⟩ 2 L__law_some_names) := ⟨f_law_some_names, _, gL__law_some_names, b_law_some_names, PySem.W.mg_of X G ha_law_some_names, hk_law_some_names⟩
  have gL__law_reads : FnOk l.prog w K mg base CX0 3 f_law_reads _ P__law_reads (spD ⟨K, κ⟩ 4 L__law_reads) := ok__law_reads F_law_reads T cL__law_take cL__law_of
  have cL__law_reads : Cal l.prog w K mg base 3 "_law_reads" P__law_reads (spD ⟨K, κ⟩ 4 L__law_reads) := ⟨f_law_reads, _, gL__law_reads, b_law_reads, PySem.W.mg_of X G ha_law_reads, hk_law_reads⟩
  have gL__law_writes : FnOk l.prog w K mg base CX0 3 f_law_writes _ P__law_writes (spD ⟨K, κ⟩ 5 L__law_writes) := ok__law_writes F_law_writes T cL__law_take cL__law_of
  have cL__law_writes : Cal l.prog w K mg base 3 "_law_writes" P__law_writes (spD ⟨K, κ⟩ 5 L__law_writes) := ⟨f_law_writes, _, gL__law_writes, b_law_writes, PySem.W.mg_of X G ha_law_writes, hk_law_writes⟩
  have gL__law_editions : FnOk l.prog w K mg base CX0 4 f_law_editions _ P__law_editions (spD ⟨K, κ⟩ 3 L__law_editions) := ok__law_editions F_law_editions T cL__law_of cL__law_reads cL__law_writes
  have cL__law_editions : Cal l.prog w K mg base 4 "_law_editions" P__law_editions (spD ⟨K, κ⟩ 3 L__law_editions) := ⟨f_law_editions, _, gL__law_editions, b_law_editions, PySem.W.mg_of X G ha_law_editions, hk_law_editions⟩
  have gL__law_world : FnOk l.prog w K mg base CX0 5 f_law_world _ P__law_world (spD ⟨K, κ⟩ 1 L__law_world) := ok__law_world F_law_world T cL__law_of cL__law_some_names cL__law_editions
  have cL__law_world : Cal l.prog w K mg base 5 "_law_world" P__law_world (spD ⟨K, κ⟩ 1 L__law_world) := ⟨f_law_world, _, gL__law_world, b_law_world, PySem.W.mg_of X G ha_law_world, hk_law_world⟩
  have gL__law_made : FnOk l.prog w K mg base CX0 9 f_law_made _ P__law_made (spD ⟨K, κ⟩ 1 L__law_made) := ok__law_made F_law_made T cL_World___init__ cL_Kind___init__
  have cL__law_made : Cal l.prog w K mg base 9 "_law_made" P__law_made (spD ⟨K, κ⟩ 1 L__law_made) := ⟨f_law_made, _, gL__law_made, b_law_made, PySem.W.mg_of X G ha_law_made, hk_law_made⟩
  have gL__law_is_fit : FnOk l.prog w K mg base CX0 1 f_law_is_fit _ P__law_is_fit (spD ⟨K, κ⟩ 3 L__law_is_fit) := ok__law_is_fit F_law_is_fit T 
  have cL__law_is_fit : Cal l.prog w K mg base 1 "_law_is_fit" P__law_is_fit (spD ⟨K, κ⟩ 3 L__law_is_fit) := ⟨f_law_is_fit, _, gL__law_is_fit, b_law_is_fit, PySem.W.mg_of X G ha_law_is_fit, hk_law_is_fit⟩
  have gL__law_span : FnOk l.prog w K mg base CX0 3 f_law_span _ P__law_span (spD ⟨K, κ⟩ 2 L__law_span) := ok__law_span F_law_span T cL__law_of cL__law_is_fit
  have cL__law_span : Cal l.prog w K mg base 3 "_law_span" P__law_span (spD ⟨K, κ⟩ 2 L__law_span) := ⟨f_law_span, _, gL__law_span, b_law_span, PySem.W.mg_of X G ha_law_span, hk_law_span⟩
  have gL__law_first_state : FnOk l.prog w K mg base CX0 1 f_law_first_state _ P__law_first_state (spD ⟨K, κ⟩ 2 L__law_first_state) := ok__law_first_state F_law_first_state T 
  have cL__law_first_state : Cal l.prog w K mg base 1 "_law_first_state" P__law_first_state (spD ⟨K, κ⟩ 2 L__law_first_state) := ⟨f_law_first_state, _, gL__law_first_state, b_law_first_state, PySem.W.mg_of X G ha_law_first_state, hk_law_first_state⟩
  have gL__law_column_steps : FnOk l.prog w K mg base CX0 3 f_law_column_steps _ P__law_column_steps (spD ⟨K, κ⟩ 2 L__law_column_steps) := ok__law_column_steps F_law_column_steps T cL__law_of
  have cL__law_column_steps : Cal l.prog w K mg base 3 "_law_column_steps" P__law_column_steps (spD ⟨K, κ⟩ 2 L__law_column_steps) := ⟨f_law_column_steps, _, gL__law_column_steps, b_law_column_steps, PySem.W.mg_of X G ha_law_column_steps, hk_law_column_steps⟩
  have gL__law_span_steps : FnOk l.prog w K mg base CX0 3 f_law_span_steps _ P__law_span_steps (spD ⟨K, κ⟩ 2 L__law_span_steps) := ok__law_span_steps F_law_span_steps T cL__law_take cL__law_of
  have cL__law_span_steps : Cal l.prog w K mg base 3 "_law_span_steps" P__law_span_steps (spD ⟨K, κ⟩ 2 L__law_span_steps) := ⟨f_law_span_steps, _, gL__law_span_steps, b_law_span_steps, PySem.W.mg_of X G ha_law_span_steps, hk_law_span_steps⟩
  have gL__law_menu : FnOk l.prog w K mg base CX0 4 f_law_menu _ P__law_menu (spD ⟨K, κ⟩ 2 L__law_menu) := ok__law_menu F_law_menu T cL__law_of cL__law_column_steps cL__law_span_steps
  have cL__law_menu : Cal l.prog w K mg base 4 "_law_menu" P__law_menu (spD ⟨K, κ⟩ 2 L__law_menu) := ⟨f_law_menu, _, gL__law_menu, b_law_menu, PySem.W.mg_of X G ha_law_menu, hk_law_menu⟩
  have gL__law_odd : FnOk l.prog w K mg base CX0 3 f_law_odd _ P__law_odd (spD ⟨K, κ⟩ 2 L__law_odd) := ok__law_odd F_law_odd T cL__law_take cL__law_of
  have cL__law_odd : Cal l.prog w K mg base 3 "_law_odd" P__law_odd (spD ⟨K, κ⟩ 2 L__law_odd) := ⟨f_law_odd, _, gL__law_odd, b_law_odd, PySem.W.mg_of X G ha_law_odd, hk_law_odd⟩
  have gL__law_fits : FnOk l.prog w K mg base CX0 1 f_law_fits _ P__law_fits (spD ⟨K, κ⟩ 3 L__law_fits) := ok__law_fits F_law_fits T 
  have cL__law_fits : Cal l.prog w K mg base 1 "_law_fits" P__law_fits (spD ⟨K, κ⟩ 3 L__law_fits) := ⟨f_law_fits, _, gL__law_fits, b_law_fits, PySem.W.mg_of X G ha_law_fits, hk_law_fits⟩
  have gL__law_is_step : FnOk l.prog w K mg base CX0 2 f_law_is_step _ P__law_is_step (spD ⟨K, κ⟩ 2 L__law_is_step) := ok__law_is_step F_law_is_step T cL__law_fits
  have cL__law_is_step : Cal l.prog w K mg base 2 "_law_is_step" P__law_is_step (spD ⟨K, κ⟩ 2 L__law_is_step) := ⟨f_law_is_step, _, gL__law_is_step, b_law_is_step, PySem.W.mg_of X G ha_law_is_step, hk_law_is_step⟩
  have gL__law_values : FnOk l.prog w K mg base CX0 5 f_law_values _ P__law_values (spD ⟨K, κ⟩ 2 L__law_values) := ok__law_values F_law_values T cL__law_first_state cL__law_span cL__law_menu cL__law_of cL__law_take cL__law_odd
  have cL__law_values : Cal l.prog w K mg base 5 "_law_values" P__law_values (spD ⟨K, κ⟩ 2 L__law_values) := ⟨f_law_values, _, gL__law_values, b_law_values, PySem.W.mg_of X G ha_law_values, hk_law_values⟩
  have gL__law_right : FnG l.prog w K mg base CX0 10 f_law_right _ P__law_right (spD ⟨K, κ⟩ 1 L__law_right) := ok__law_right F_law_right T cL__law_world cL__law_made cL__law_values cL_is_step cL__law_is_step
  have cL__law_right : CalG l.prog w K mg base 10 "_law_right" P__law_right (spD ⟨K, κ⟩ 1 L__law_right) := ⟨f_law_right, _, gL__law_right, b_law_right, PySem.W.mg_of X G ha_law_right, hk_law_right⟩
  exact law_end (ok_law Flaw T cL__law_pot_of cL__law_right)
/-! ### the head: facts by names, the run -/
def dd0 : He.DefD := ⟨("editions_of", none), "editions_of", "editions_of", defArgs s_editions_of, defBody s_editions_of, defScope s_editions_of, [], []⟩
def dd1 : He.DefD := ⟨("is_integer", none), "is_integer", "is_integer", defArgs s_is_integer, defBody s_is_integer, defScope s_is_integer, [], []⟩
def dd2 : He.DefD := ⟨("is_between", none), "is_between", "is_between", defArgs s_is_between, defBody s_is_between, defScope s_is_between, [], []⟩
def dd3 : He.DefD := ⟨("is_name", none), "is_name", "is_name", defArgs s_is_name, defBody s_is_name, defScope s_is_name, [], []⟩
def dd4 : He.DefD := ⟨("is_tuple_of", none), "is_tuple_of", "is_tuple_of", defArgs s_is_tuple_of, defBody s_is_tuple_of, defScope s_is_tuple_of, [], []⟩
def dd5 : He.DefD := ⟨("is_ascending", none), "is_ascending", "is_ascending", defArgs s_is_ascending, defBody s_is_ascending, defScope s_is_ascending, [], []⟩
def dd6 : He.DefD := ⟨("step_form", none), "step_form", "step_form", defArgs s_step_form, defBody s_step_form, defScope s_step_form, [], []⟩
def dd7 : He.DefD := ⟨("is_plain_part", none), "is_plain_part", "is_plain_part", defArgs s_is_plain_part, defBody s_is_plain_part, defScope s_is_plain_part, [], []⟩
def dd8 : He.DefD := ⟨("is_count", none), "is_count", "is_count", defArgs s_is_count, defBody s_is_count, defScope s_is_count, [], []⟩
def dd9 : He.DefD := ⟨("_first_word", none), "_first_word", "_first_word", defArgs s__first_word, defBody s__first_word, defScope s__first_word, [], []⟩
def dd10 : He.DefD := ⟨("is_step", none), "is_step", "is_step", defArgs s_is_step, defBody s_is_step, defScope s_is_step, [], []⟩
def dd11 : He.DefD := ⟨("are_parts", none), "are_parts", "are_parts", defArgs s_are_parts, defBody s_are_parts, defScope s_are_parts, [], []⟩
def dd12 : He.DefD := ⟨("_is_part", none), "_is_part", "_is_part", defArgs s__is_part, defBody s__is_part, defScope s__is_part, [], []⟩
def dd13 : He.DefD := ⟨("Kind", some "__init__"), "__init__", "Kind.__init__", defArgs s_Kind___init__, defBody s_Kind___init__, defScope s_Kind___init__, [], []⟩
def dd14 : He.DefD := ⟨("Kind", some "__eq__"), "__eq__", "Kind.__eq__", defArgs s_Kind___eq__, defBody s_Kind___eq__, defScope s_Kind___eq__, [], []⟩
def dd15 : He.DefD := ⟨("Kind", some "__le__"), "__le__", "Kind.__le__", defArgs s_Kind___le__, defBody s_Kind___le__, defScope s_Kind___le__, [], []⟩
def dd16 : He.DefD := ⟨("Kind", some "__lt__"), "__lt__", "Kind.__lt__", defArgs s_Kind___lt__, defBody s_Kind___lt__, defScope s_Kind___lt__, [], []⟩
def dd17 : He.DefD := ⟨("World", some "__init__"), "__init__", "World.__init__", defArgs s_World___init__, defBody s_World___init__, defScope s_World___init__, [], []⟩
def dd18 : He.DefD := ⟨("_are_kinds", none), "_are_kinds", "_are_kinds", defArgs s__are_kinds, defBody s__are_kinds, defScope s__are_kinds, [], []⟩
def dd19 : He.DefD := ⟨("_are_columns", none), "_are_columns", "_are_columns", defArgs s__are_columns, defBody s__are_columns, defScope s__are_columns, [], []⟩
def dd20 : He.DefD := ⟨("_are_programs", none), "_are_programs", "_are_programs", defArgs s__are_programs, defBody s__are_programs, defScope s__are_programs, [], []⟩
def dd21 : He.DefD := ⟨("_is_program", none), "_is_program", "_is_program", defArgs s__is_program, defBody s__is_program, defScope s__is_program, [], []⟩
def dd22 : He.DefD := ⟨("_is_edition", none), "_is_edition", "_is_edition", defArgs s__is_edition, defBody s__is_edition, defScope s__is_edition, [], []⟩
def dd23 : He.DefD := ⟨("_are_rows", none), "_are_rows", "_are_rows", defArgs s__are_rows, defBody s__are_rows, defScope s__are_rows, [], []⟩
def dd24 : He.DefD := ⟨("_is_read", none), "_is_read", "_is_read", defArgs s__is_read, defBody s__is_read, defScope s__is_read, [], []⟩
def dd25 : He.DefD := ⟨("_is_write", none), "_is_write", "_is_write", defArgs s__is_write, defBody s__is_write, defScope s__is_write, [], []⟩
def dd26 : He.DefD := ⟨("_is_first_edition", none), "_is_first_edition", "_is_first_edition", defArgs s__is_first_edition, defBody s__is_first_edition, defScope s__is_first_edition, [], []⟩
def dd27 : He.DefD := ⟨("_many_in_two_events", none), "_many_in_two_events", "_many_in_two_events", defArgs s__many_in_two_events, defBody s__many_in_two_events, defScope s__many_in_two_events, [], []⟩
def dd28 : He.DefD := ⟨("_law_pot_of", none), "_law_pot_of", "_law_pot_of", defArgs s__law_pot_of, defBody s__law_pot_of, defScope s__law_pot_of, [], []⟩
def dd29 : He.DefD := ⟨("_law_take", none), "_law_take", "_law_take", defArgs s__law_take, defBody s__law_take, defScope s__law_take, [], []⟩
def dd30 : He.DefD := ⟨("_law_of", none), "_law_of", "_law_of", defArgs s__law_of, defBody s__law_of, defScope s__law_of, [], []⟩
def dd31 : He.DefD := ⟨("_law_some_names", none), "_law_some_names", "_law_some_names", defArgs s__law_some_names, defBody s__law_some_names, defScope s__law_some_names, [], []⟩
def dd32 : He.DefD := ⟨("_law_reads", none), "_law_reads", "_law_reads", defArgs s__law_reads, defBody s__law_reads, defScope s__law_reads, [], []⟩
def dd33 : He.DefD := ⟨("_law_writes", none), "_law_writes", "_law_writes", defArgs s__law_writes, defBody s__law_writes, defScope s__law_writes, [], []⟩
def dd34 : He.DefD := ⟨("_law_editions", none), "_law_editions", "_law_editions", defArgs s__law_editions, defBody s__law_editions, defScope s__law_editions, [], []⟩
def dd35 : He.DefD := ⟨("_law_world", none), "_law_world", "_law_world", defArgs s__law_world, defBody s__law_world, defScope s__law_world, [], []⟩
def dd36 : He.DefD := ⟨("_law_made", none), "_law_made", "_law_made", defArgs s__law_made, defBody s__law_made, defScope s__law_made, [], []⟩
def dd37 : He.DefD := ⟨("_law_is_fit", none), "_law_is_fit", "_law_is_fit", defArgs s__law_is_fit, defBody s__law_is_fit, defScope s__law_is_fit, [], []⟩
def dd38 : He.DefD := ⟨("_law_span", none), "_law_span", "_law_span", defArgs s__law_span, defBody s__law_span, defScope s__law_span, [], []⟩
def dd39 : He.DefD := ⟨("_law_first_state", none), "_law_first_state", "_law_first_state", defArgs s__law_first_state, defBody s__law_first_state, defScope s__law_first_state, [], []⟩
def dd40 : He.DefD := ⟨("_law_column_steps", none), "_law_column_steps", "_law_column_steps", defArgs s__law_column_steps, defBody s__law_column_steps, defScope s__law_column_steps, [], []⟩
def dd41 : He.DefD := ⟨("_law_span_steps", none), "_law_span_steps", "_law_span_steps", defArgs s__law_span_steps, defBody s__law_span_steps, defScope s__law_span_steps, [], []⟩
def dd42 : He.DefD := ⟨("_law_menu", none), "_law_menu", "_law_menu", defArgs s__law_menu, defBody s__law_menu, defScope s__law_menu, [], []⟩
def dd43 : He.DefD := ⟨("_law_odd", none), "_law_odd", "_law_odd", defArgs s__law_odd, defBody s__law_odd, defScope s__law_odd, [], []⟩
def dd44 : He.DefD := ⟨("_law_fits", none), "_law_fits", "_law_fits", defArgs s__law_fits, defBody s__law_fits, defScope s__law_fits, [], []⟩
def dd45 : He.DefD := ⟨("_law_is_step", none), "_law_is_step", "_law_is_step", defArgs s__law_is_step, defBody s__law_is_step, defScope s__law_is_step, [], []⟩
def dd46 : He.DefD := ⟨("_law_values", none), "_law_values", "_law_values", defArgs s__law_values, defBody s__law_values, defScope s__law_values, [], []⟩
def dd47 : He.DefD := ⟨("_law_right", none), "_law_right", "_law_right", defArgs s__law_right, defBody s__law_right, defScope s__law_right, [], []⟩
def dd48 : He.DefD := ⟨("law", none), "law", "law", defArgs s_law, defBody s_law, defScope s_law, [], []⟩
def fnl0 : List He.DefD := [dd0, dd1, dd2, dd3, dd4, dd5, dd6, dd7, dd8, dd9, dd10, dd11, dd12, dd13, dd14, dd15, dd16, dd17, dd18, dd19, dd20, dd21, dd22, dd23, dd24, dd25, dd26, dd27, dd28, dd29, dd30, dd31, dd32, dd33, dd34, dd35, dd36, dd37, dd38, dd39]
def fnl1 : List He.DefD := [dd40, dd41, dd42, dd43, dd44, dd45, dd46, dd47, dd48]
def fnl : List He.DefD := fnl0 ++ fnl1
def tsl : List He.Tab := [(fun K => (He.ga K "STEP_FORMS"), (t_STEP_FORMS.map (·.1)))]
def exl0 (K : PySem.W.Frag) : Bool := decide (PySem.W.nsIn K mainGlobals "World" = some (some (.ref (He.ga K "World")))) && (PySem.W.plainGet K (He.ga K "World") Str.empty && (PySem.W.hasDictIn K (He.ga K "World") && (PySem.W.plainOver K (He.ga K "World") && (decide (PySem.W.findIn K (.ref (He.ga K "World")) "__setattr__" = some (some (.builtin "object.__setattr__"))) && (PySem.W.makesIn K (He.ga K "World") && (PySem.W.keepIn K (.ref (He.ga K "World")) && (decide (PySem.W.findIn K (.ref (He.ga K "World")) "__class__" = some (some (.builtin "object.__class__"))) && (decide (PySem.W.mroIn K (He.ga K "World") (.type "object") = some true) && (decide (PySem.W.findIn K (.ref (He.ga K "World")) "narrow" = some none) && (decide (PySem.W.findIn K (.ref (He.ga K "World")) "wide" = some none) && (decide (PySem.W.findIn K (.ref (He.ga K "World")) "columns" = some none) && (decide (PySem.W.findIn K (.ref (He.ga K "World")) "programs" = some none) && (decide (PySem.W.nsIn K mainGlobals "Kind" = some (some (.ref (He.ga K "Kind")))) && (PySem.W.plainGet K (He.ga K "Kind") Str.empty && (PySem.W.hasDictIn K (He.ga K "Kind") && (PySem.W.plainOver K (He.ga K "Kind") && (decide (PySem.W.findIn K (.ref (He.ga K "Kind")) "__setattr__" = some (some (.builtin "object.__setattr__"))) && (PySem.W.makesIn K (He.ga K "Kind") && (PySem.W.keepIn K (.ref (He.ga K "Kind")))))))))))))))))))))
def exl1 (K : PySem.W.Frag) : Bool := decide (PySem.W.findIn K (.ref (He.ga K "Kind")) "__class__" = some (some (.builtin "object.__class__"))) && (decide (PySem.W.mroIn K (He.ga K "Kind") (.type "object") = some true) && (decide (PySem.W.findIn K (.ref (He.ga K "Kind")) "low" = some none) && (decide (PySem.W.findIn K (.ref (He.ga K "Kind")) "high" = some none) && (decide (PySem.W.findIn K (.ref (He.ga K "Kind")) "size" = some none) && (numB K "MOST_LETTERS" 8 && (numB K "LEAST_NARROW" 16 && (numB K "MOST_PACE" 99 && (numB K "MOST_IN_TWO_EVENTS" 2 && (decide (PySem.W.nsIn K mainGlobals "SIDES" = some (some (.ref (He.ga K "SIDES")))) && (decide (tupW K (He.ga K "SIDES") = some (["narrow", "wide"] : List Str)) && (decide (PySem.W.nsIn K mainGlobals "RULES" = some (some (.ref (He.ga K "RULES")))) && (decide (tupW K (He.ga K "RULES") = some (["cut", "empty", "refuse"] : List Str)) && (decide (PySem.W.nsIn K mainGlobals "MANNERS" = some (some (.ref (He.ga K "MANNERS")))) && (decide (tupW K (He.ga K "MANNERS") = some (["empty", "anew"] : List Str)) && (decide (PySem.W.nsIn K mainGlobals "DEEDS" = some (some (.ref (He.ga K "DEEDS")))) && (decide (tupW K (He.ga K "DEEDS") = some (["match", "order", "show"] : List Str)) && (decide (PySem.W.nsIn K mainGlobals "READ_SIDES" = some (some (.ref (He.ga K "READ_SIDES")))) && (decide (tupW K (He.ga K "READ_SIDES") = some (["narrow", "wide", "either"] : List Str)) && (decide (PySem.W.nsIn K mainGlobals "HOWS" = some (some (.ref (He.ga K "HOWS")))))))))))))))))))))))
def exl2 (K : PySem.W.Frag) : Bool := decide (tupW K (He.ga K "HOWS") = some (["narrow", "wide", "both", "narrow first", "wide first"] : List Str)) && (decide (PySem.W.nsIn K mainGlobals "IN_TWO_EVENTS" = some (some (.ref (He.ga K "IN_TWO_EVENTS")))) && (decide (tupW K (He.ga K "IN_TWO_EVENTS") = some (["narrow first", "wide first"] : List Str)) && (decide (PySem.W.nsIn K mainGlobals "STEP_FORMS" = some (some (.ref (He.ga K "STEP_FORMS")))) && (tabOk K (He.ga K "STEP_FORMS") t_STEP_FORMS && (decide (PySem.W.nsIn K mainGlobals "dict" = some none) && (decide (PySem.W.specialIn K (.builtin "object.__class__") "__get__" = some (some (.builtin "getset_descriptor.__get__"))) && (decide (PySem.W.takesIn K (.builtin "object.__class__") = some true) && (decide (PySem.W.nsIn K mainGlobals "sorted" = some none) && (decide (PySem.W.nsIn K mainGlobals "editions_of" = some (some (.ref (He.ga K "editions_of")))) && (decide (PySem.W.nsIn K mainGlobals "is_integer" = some (some (.ref (He.ga K "is_integer")))) && (decide (PySem.W.nsIn K mainGlobals "is_between" = some (some (.ref (He.ga K "is_between")))) && (decide (PySem.W.nsIn K mainGlobals "is_name" = some (some (.ref (He.ga K "is_name")))) && (decide (PySem.W.nsIn K mainGlobals "is_tuple_of" = some (some (.ref (He.ga K "is_tuple_of")))) && (decide (PySem.W.nsIn K mainGlobals "is_ascending" = some (some (.ref (He.ga K "is_ascending")))) && (decide (PySem.W.nsIn K mainGlobals "step_form" = some (some (.ref (He.ga K "step_form")))) && (decide (PySem.W.nsIn K mainGlobals "is_plain_part" = some (some (.ref (He.ga K "is_plain_part")))) && (decide (PySem.W.nsIn K mainGlobals "is_count" = some (some (.ref (He.ga K "is_count")))) && (decide (PySem.W.nsIn K mainGlobals "_first_word" = some (some (.ref (He.ga K "_first_word")))) && (decide (PySem.W.nsIn K mainGlobals "is_step" = some (some (.ref (He.ga K "is_step")))))))))))))))))))))))
def exl3 (K : PySem.W.Frag) : Bool := decide (PySem.W.nsIn K mainGlobals "are_parts" = some (some (.ref (He.ga K "are_parts")))) && (decide (PySem.W.nsIn K mainGlobals "_is_part" = some (some (.ref (He.ga K "_is_part")))) && (decide (PySem.W.findIn K (.ref (He.ga K "Kind")) "__init__" = some (some (.ref (He.ma K (He.ga K "Kind") "__init__")))) && (PySem.W.isFn K (.ref (He.ma K (He.ga K "Kind") "__init__")) && (decide (PySem.W.findIn K (.ref (He.ga K "Kind")) "__eq__" = some (some (.ref (He.ma K (He.ga K "Kind") "__eq__")))) && (PySem.W.isFn K (.ref (He.ma K (He.ga K "Kind") "__eq__")) && (decide (PySem.W.findIn K (.ref (He.ga K "Kind")) "__le__" = some (some (.ref (He.ma K (He.ga K "Kind") "__le__")))) && (PySem.W.isFn K (.ref (He.ma K (He.ga K "Kind") "__le__")) && (decide (PySem.W.findIn K (.ref (He.ga K "Kind")) "__lt__" = some (some (.ref (He.ma K (He.ga K "Kind") "__lt__")))) && (PySem.W.isFn K (.ref (He.ma K (He.ga K "Kind") "__lt__")) && (decide (PySem.W.findIn K (.ref (He.ga K "World")) "__init__" = some (some (.ref (He.ma K (He.ga K "World") "__init__")))) && (PySem.W.isFn K (.ref (He.ma K (He.ga K "World") "__init__")) && (decide (PySem.W.nsIn K mainGlobals "_are_kinds" = some (some (.ref (He.ga K "_are_kinds")))) && (decide (PySem.W.nsIn K mainGlobals "_are_columns" = some (some (.ref (He.ga K "_are_columns")))) && (decide (PySem.W.nsIn K mainGlobals "_are_programs" = some (some (.ref (He.ga K "_are_programs")))) && (decide (PySem.W.nsIn K mainGlobals "_is_program" = some (some (.ref (He.ga K "_is_program")))) && (decide (PySem.W.nsIn K mainGlobals "_is_edition" = some (some (.ref (He.ga K "_is_edition")))) && (decide (PySem.W.nsIn K mainGlobals "_are_rows" = some (some (.ref (He.ga K "_are_rows")))) && (decide (PySem.W.nsIn K mainGlobals "_is_read" = some (some (.ref (He.ga K "_is_read")))) && (decide (PySem.W.nsIn K mainGlobals "_is_write" = some (some (.ref (He.ga K "_is_write")))))))))))))))))))))))
def exl4 (K : PySem.W.Frag) : Bool := decide (PySem.W.nsIn K mainGlobals "_is_first_edition" = some (some (.ref (He.ga K "_is_first_edition")))) && (decide (PySem.W.nsIn K mainGlobals "_many_in_two_events" = some (some (.ref (He.ga K "_many_in_two_events")))) && (decide (PySem.W.nsIn K mainGlobals "_law_pot_of" = some (some (.ref (He.ga K "_law_pot_of")))) && (decide (PySem.W.nsIn K mainGlobals "_law_take" = some (some (.ref (He.ga K "_law_take")))) && (decide (PySem.W.nsIn K mainGlobals "_law_of" = some (some (.ref (He.ga K "_law_of")))) && (decide (PySem.W.nsIn K mainGlobals "_law_some_names" = some (some (.ref (He.ga K "_law_some_names")))) && (decide (PySem.W.nsIn K mainGlobals "_law_reads" = some (some (.ref (He.ga K "_law_reads")))) && (decide (PySem.W.nsIn K mainGlobals "_law_writes" = some (some (.ref (He.ga K "_law_writes")))) && (decide (PySem.W.nsIn K mainGlobals "_law_editions" = some (some (.ref (He.ga K "_law_editions")))) && (decide (PySem.W.nsIn K mainGlobals "_law_world" = some (some (.ref (He.ga K "_law_world")))) && (decide (PySem.W.nsIn K mainGlobals "_law_made" = some (some (.ref (He.ga K "_law_made")))) && (decide (PySem.W.nsIn K mainGlobals "_law_is_fit" = some (some (.ref (He.ga K "_law_is_fit")))) && (decide (PySem.W.nsIn K mainGlobals "_law_span" = some (some (.ref (He.ga K "_law_span")))) && (decide (PySem.W.nsIn K mainGlobals "_law_first_state" = some (some (.ref (He.ga K "_law_first_state")))) && (decide (PySem.W.nsIn K mainGlobals "_law_column_steps" = some (some (.ref (He.ga K "_law_column_steps")))) && (decide (PySem.W.nsIn K mainGlobals "_law_span_steps" = some (some (.ref (He.ga K "_law_span_steps")))) && (decide (PySem.W.nsIn K mainGlobals "_law_menu" = some (some (.ref (He.ga K "_law_menu")))) && (decide (PySem.W.nsIn K mainGlobals "_law_odd" = some (some (.ref (He.ga K "_law_odd")))) && (decide (PySem.W.nsIn K mainGlobals "_law_fits" = some (some (.ref (He.ga K "_law_fits")))) && (decide (PySem.W.nsIn K mainGlobals "_law_is_step" = some (some (.ref (He.ga K "_law_is_step")))))))))))))))))))))))
def exl5 (K : PySem.W.Frag) : Bool := decide (PySem.W.nsIn K mainGlobals "_law_values" = some (some (.ref (He.ga K "_law_values")))) && (decide (PySem.W.nsIn K mainGlobals "_law_right" = some (some (.ref (He.ga K "_law_right")))) && (decide (PySem.W.nsIn K mainGlobals "law" = some (some (.ref (He.ga K "law")))) && (decide (PySem.W.nsIn K mainGlobals "int" = some none) && (decide (PySem.W.nsIn K mainGlobals "len" = some none) && (decide (PySem.W.nsIn K mainGlobals "abs" = some none) && (decide (PySem.W.nsIn K mainGlobals "bool" = some none) && (decide (PySem.W.nsIn K mainGlobals "tuple" = some none) && (decide (PySem.W.nsIn K mainGlobals "isinstance" = some none) && (decide (PySem.W.nsIn K mainGlobals "range" = some none) && (decide (PySem.W.nsIn K mainGlobals "max" = some none) && (decide (PySem.W.nsIn K mainGlobals "min" = some none) && (decide (PySem.W.nsIn K mainGlobals "all" = some none) && (decide (PySem.W.nsIn K mainGlobals "repr" = some none) && (decide (PySem.W.nsIn K mainGlobals "str" = some none) && (decide (PySem.W.nsIn K mainGlobals "any" = some none) && (decide (PySem.W.nsIn K mainGlobals "list" = some none) && (decide (PySem.W.nsIn K mainGlobals "zip" = some none) && (decide (PySem.W.nsIn K mainGlobals "enumerate" = some none)))))))))))))))))))
def exl (K : PySem.W.Frag) : Bool := exl0 K && (exl1 K && (exl2 K && (exl3 K && (exl4 K && (exl5 K)))))
theorem exg0 {K : PySem.W.Frag} (h : exl K = true) : exl0 K = true := (He.ba h).1
theorem ex_0 {K : PySem.W.Frag} (h : exl K = true) : (decide (PySem.W.nsIn K mainGlobals "World" = some (some (.ref (He.ga K "World"))))) = true := (He.ba (exg0 h)).1
theorem ex_1 {K : PySem.W.Frag} (h : exl K = true) : (PySem.W.plainGet K (He.ga K "World") Str.empty) = true := (He.ba (He.ba (exg0 h)).2).1
theorem ex_2 {K : PySem.W.Frag} (h : exl K = true) : (PySem.W.hasDictIn K (He.ga K "World")) = true := (He.ba (He.ba (He.ba (exg0 h)).2).2).1
theorem ex_3 {K : PySem.W.Frag} (h : exl K = true) : (PySem.W.plainOver K (He.ga K "World")) = true := (He.ba (He.ba (He.ba (He.ba (exg0 h)).2).2).2).1
theorem ex_4 {K : PySem.W.Frag} (h : exl K = true) : (decide (PySem.W.findIn K (.ref (He.ga K "World")) "__setattr__" = some (some (.builtin "object.__setattr__")))) = true := (He.ba (He.ba (He.ba (He.ba (He.ba (exg0 h)).2).2).2).2).1
theorem ex_5 {K : PySem.W.Frag} (h : exl K = true) : (PySem.W.makesIn K (He.ga K "World")) = true := (He.ba (He.ba (He.ba (He.ba (He.ba (He.ba (exg0 h)).2).2).2).2).2).1
theorem ex_6 {K : PySem.W.Frag} (h : exl K = true) : (PySem.W.keepIn K (.ref (He.ga K "World"))) = true := (He.ba (He.ba (He.ba (He.ba (He.ba (He.ba (He.ba (exg0 h)).2).2).2).2).2).2).1
theorem ex_7 {K : PySem.W.Frag} (h : exl K = true) : (decide (PySem.W.findIn K (.ref (He.ga K "World")) "__class__" = some (some (.builtin "object.__class__")))) = true := (He.ba (He.ba (He.ba (He.ba (He.ba (He.ba (He.ba (He.ba (exg0 h)).2).2).2).2).2).2).2).1
theorem ex_8 {K : PySem.W.Frag} (h : exl K = true) : (decide (PySem.W.mroIn K (He.ga K "World") (.type "object") = some true)) = true := (He.ba (He.ba (He.ba (He.ba (He.ba (He.ba (He.ba (He.ba (He.ba (exg0 h)).2).2).2).2).2).2).2).2).1
theorem ex_9 {K : PySem.W.Frag} (h : exl K = true) : (decide (PySem.W.findIn K (.ref (He.ga K "World")) "narrow" = some none)) = true := (He.ba (He.ba (He.ba (He.ba (He.ba (He.ba (He.ba (He.ba (He.ba (He.ba (exg0 h)).2).2).2).2).2).2).2).2).2).1
theorem ex_10 {K : PySem.W.Frag} (h : exl K = true) : (decide (PySem.W.findIn K (.ref (He.ga K "World")) "wide" = some none)) = true := (He.ba (He.ba (He.ba (He.ba (He.ba (He.ba (He.ba (He.ba (He.ba (He.ba (He.ba (exg0 h)).2).2).2).2).2).2).2).2).2).2).1
theorem ex_11 {K : PySem.W.Frag} (h : exl K = true) : (decide (PySem.W.findIn K (.ref (He.ga K "World")) "columns" = some none)) = true := (He.ba (He.ba (He.ba (He.ba (He.ba (He.ba (He.ba (He.ba (He.ba (He.ba (He.ba (He.ba (exg0 h)).2).2).2).2).2).2).2).2).2).2).2).1
theorem ex_12 {K : PySem.W.Frag} (h : exl K = true) : (decide (PySem.W.findIn K (.ref (He.ga K "World")) "programs" = some none)) = true := (He.ba (He.ba (He.ba (He.ba (He.ba (He.ba (He.ba (He.ba (He.ba (He.ba (He.ba (He.ba (He.ba (exg0 h)).2).2).2).2).2).2).2).2).2).2).2).2).1
theorem ex_13 {K : PySem.W.Frag} (h : exl K = true) : (decide (PySem.W.nsIn K mainGlobals "Kind" = some (some (.ref (He.ga K "Kind"))))) = true := (He.ba (He.ba (He.ba (He.ba (He.ba (He.ba (He.ba (He.ba (He.ba (He.ba (He.ba (He.ba (He.ba (He.ba (exg0 h)).2).2).2).2).2).2).2).2).2).2).2).2).2).1
theorem ex_14 {K : PySem.W.Frag} (h : exl K = true) : (PySem.W.plainGet K (He.ga K "Kind") Str.empty) = true := (He.ba (He.ba (He.ba (He.ba (He.ba (He.ba (He.ba (He.ba (He.ba (He.ba (He.ba (He.ba (He.ba (He.ba (He.ba (exg0 h)).2).2).2).2).2).2).2).2).2).2).2).2).2).2).1
theorem ex_15 {K : PySem.W.Frag} (h : exl K = true) : (PySem.W.hasDictIn K (He.ga K "Kind")) = true := (He.ba (He.ba (He.ba (He.ba (He.ba (He.ba (He.ba (He.ba (He.ba (He.ba (He.ba (He.ba (He.ba (He.ba (He.ba (He.ba (exg0 h)).2).2).2).2).2).2).2).2).2).2).2).2).2).2).2).1
theorem ex_16 {K : PySem.W.Frag} (h : exl K = true) : (PySem.W.plainOver K (He.ga K "Kind")) = true := (He.ba (He.ba (He.ba (He.ba (He.ba (He.ba (He.ba (He.ba (He.ba (He.ba (He.ba (He.ba (He.ba (He.ba (He.ba (He.ba (He.ba (exg0 h)).2).2).2).2).2).2).2).2).2).2).2).2).2).2).2).2).1
theorem ex_17 {K : PySem.W.Frag} (h : exl K = true) : (decide (PySem.W.findIn K (.ref (He.ga K "Kind")) "__setattr__" = some (some (.builtin "object.__setattr__")))) = true := (He.ba (He.ba (He.ba (He.ba (He.ba (He.ba (He.ba (He.ba (He.ba (He.ba (He.ba (He.ba (He.ba (He.ba (He.ba (He.ba (He.ba (He.ba (exg0 h)).2).2).2).2).2).2).2).2).2).2).2).2).2).2).2).2).2).1
theorem ex_18 {K : PySem.W.Frag} (h : exl K = true) : (PySem.W.makesIn K (He.ga K "Kind")) = true := (He.ba (He.ba (He.ba (He.ba (He.ba (He.ba (He.ba (He.ba (He.ba (He.ba (He.ba (He.ba (He.ba (He.ba (He.ba (He.ba (He.ba (He.ba (He.ba (exg0 h)).2).2).2).2).2).2).2).2).2).2).2).2).2).2).2).2).2).2).1
theorem ex_19 {K : PySem.W.Frag} (h : exl K = true) : (PySem.W.keepIn K (.ref (He.ga K "Kind"))) = true := (He.ba (He.ba (He.ba (He.ba (He.ba (He.ba (He.ba (He.ba (He.ba (He.ba (He.ba (He.ba (He.ba (He.ba (He.ba (He.ba (He.ba (He.ba (He.ba (exg0 h)).2).2).2).2).2).2).2).2).2).2).2).2).2).2).2).2).2).2).2
theorem exg1 {K : PySem.W.Frag} (h : exl K = true) : exl1 K = true := (He.ba (He.ba h).2).1
theorem ex_20 {K : PySem.W.Frag} (h : exl K = true) : (decide (PySem.W.findIn K (.ref (He.ga K "Kind")) "__class__" = some (some (.builtin "object.__class__")))) = true := (He.ba (exg1 h)).1
theorem ex_21 {K : PySem.W.Frag} (h : exl K = true) : (decide (PySem.W.mroIn K (He.ga K "Kind") (.type "object") = some true)) = true := (He.ba (He.ba (exg1 h)).2).1
theorem ex_22 {K : PySem.W.Frag} (h : exl K = true) : (decide (PySem.W.findIn K (.ref (He.ga K "Kind")) "low" = some none)) = true := (He.ba (He.ba (He.ba (exg1 h)).2).2).1
theorem ex_23 {K : PySem.W.Frag} (h : exl K = true) : (decide (PySem.W.findIn K (.ref (He.ga K "Kind")) "high" = some none)) = true := (He.ba (He.ba (He.ba (He.ba (exg1 h)).2).2).2).1
theorem ex_24 {K : PySem.W.Frag} (h : exl K = true) : (decide (PySem.W.findIn K (.ref (He.ga K "Kind")) "size" = some none)) = true := (He.ba (He.ba (He.ba (He.ba (He.ba (exg1 h)).2).2).2).2).1
theorem ex_25 {K : PySem.W.Frag} (h : exl K = true) : (numB K "MOST_LETTERS" 8) = true := (He.ba (He.ba (He.ba (He.ba (He.ba (He.ba (exg1 h)).2).2).2).2).2).1
theorem ex_26 {K : PySem.W.Frag} (h : exl K = true) : (numB K "LEAST_NARROW" 16) = true := (He.ba (He.ba (He.ba (He.ba (He.ba (He.ba (He.ba (exg1 h)).2).2).2).2).2).2).1
theorem ex_27 {K : PySem.W.Frag} (h : exl K = true) : (numB K "MOST_PACE" 99) = true := (He.ba (He.ba (He.ba (He.ba (He.ba (He.ba (He.ba (He.ba (exg1 h)).2).2).2).2).2).2).2).1
theorem ex_28 {K : PySem.W.Frag} (h : exl K = true) : (numB K "MOST_IN_TWO_EVENTS" 2) = true := (He.ba (He.ba (He.ba (He.ba (He.ba (He.ba (He.ba (He.ba (He.ba (exg1 h)).2).2).2).2).2).2).2).2).1
theorem ex_29 {K : PySem.W.Frag} (h : exl K = true) : (decide (PySem.W.nsIn K mainGlobals "SIDES" = some (some (.ref (He.ga K "SIDES"))))) = true := (He.ba (He.ba (He.ba (He.ba (He.ba (He.ba (He.ba (He.ba (He.ba (He.ba (exg1 h)).2).2).2).2).2).2).2).2).2).1
theorem ex_30 {K : PySem.W.Frag} (h : exl K = true) : (decide (tupW K (He.ga K "SIDES") = some (["narrow", "wide"] : List Str))) = true := (He.ba (He.ba (He.ba (He.ba (He.ba (He.ba (He.ba (He.ba (He.ba (He.ba (He.ba (exg1 h)).2).2).2).2).2).2).2).2).2).2).1
theorem ex_31 {K : PySem.W.Frag} (h : exl K = true) : (decide (PySem.W.nsIn K mainGlobals "RULES" = some (some (.ref (He.ga K "RULES"))))) = true := (He.ba (He.ba (He.ba (He.ba (He.ba (He.ba (He.ba (He.ba (He.ba (He.ba (He.ba (He.ba (exg1 h)).2).2).2).2).2).2).2).2).2).2).2).1
theorem ex_32 {K : PySem.W.Frag} (h : exl K = true) : (decide (tupW K (He.ga K "RULES") = some (["cut", "empty", "refuse"] : List Str))) = true := (He.ba (He.ba (He.ba (He.ba (He.ba (He.ba (He.ba (He.ba (He.ba (He.ba (He.ba (He.ba (He.ba (exg1 h)).2).2).2).2).2).2).2).2).2).2).2).2).1
theorem ex_33 {K : PySem.W.Frag} (h : exl K = true) : (decide (PySem.W.nsIn K mainGlobals "MANNERS" = some (some (.ref (He.ga K "MANNERS"))))) = true := (He.ba (He.ba (He.ba (He.ba (He.ba (He.ba (He.ba (He.ba (He.ba (He.ba (He.ba (He.ba (He.ba (He.ba (exg1 h)).2).2).2).2).2).2).2).2).2).2).2).2).2).1
theorem ex_34 {K : PySem.W.Frag} (h : exl K = true) : (decide (tupW K (He.ga K "MANNERS") = some (["empty", "anew"] : List Str))) = true := (He.ba (He.ba (He.ba (He.ba (He.ba (He.ba (He.ba (He.ba (He.ba (He.ba (He.ba (He.ba (He.ba (He.ba (He.ba (exg1 h)).2).2).2).2).2).2).2).2).2).2).2).2).2).2).1
theorem ex_35 {K : PySem.W.Frag} (h : exl K = true) : (decide (PySem.W.nsIn K mainGlobals "DEEDS" = some (some (.ref (He.ga K "DEEDS"))))) = true := (He.ba (He.ba (He.ba (He.ba (He.ba (He.ba (He.ba (He.ba (He.ba (He.ba (He.ba (He.ba (He.ba (He.ba (He.ba (He.ba (exg1 h)).2).2).2).2).2).2).2).2).2).2).2).2).2).2).2).1
theorem ex_36 {K : PySem.W.Frag} (h : exl K = true) : (decide (tupW K (He.ga K "DEEDS") = some (["match", "order", "show"] : List Str))) = true := (He.ba (He.ba (He.ba (He.ba (He.ba (He.ba (He.ba (He.ba (He.ba (He.ba (He.ba (He.ba (He.ba (He.ba (He.ba (He.ba (He.ba (exg1 h)).2).2).2).2).2).2).2).2).2).2).2).2).2).2).2).2).1
theorem ex_37 {K : PySem.W.Frag} (h : exl K = true) : (decide (PySem.W.nsIn K mainGlobals "READ_SIDES" = some (some (.ref (He.ga K "READ_SIDES"))))) = true := (He.ba (He.ba (He.ba (He.ba (He.ba (He.ba (He.ba (He.ba (He.ba (He.ba (He.ba (He.ba (He.ba (He.ba (He.ba (He.ba (He.ba (He.ba (exg1 h)).2).2).2).2).2).2).2).2).2).2).2).2).2).2).2).2).2).1
theorem ex_38 {K : PySem.W.Frag} (h : exl K = true) : (decide (tupW K (He.ga K "READ_SIDES") = some (["narrow", "wide", "either"] : List Str))) = true := (He.ba (He.ba (He.ba (He.ba (He.ba (He.ba (He.ba (He.ba (He.ba (He.ba (He.ba (He.ba (He.ba (He.ba (He.ba (He.ba (He.ba (He.ba (He.ba (exg1 h)).2).2).2).2).2).2).2).2).2).2).2).2).2).2).2).2).2).2).1
theorem ex_39 {K : PySem.W.Frag} (h : exl K = true) : (decide (PySem.W.nsIn K mainGlobals "HOWS" = some (some (.ref (He.ga K "HOWS"))))) = true := (He.ba (He.ba (He.ba (He.ba (He.ba (He.ba (He.ba (He.ba (He.ba (He.ba (He.ba (He.ba (He.ba (He.ba (He.ba (He.ba (He.ba (He.ba (He.ba (exg1 h)).2).2).2).2).2).2).2).2).2).2).2).2).2).2).2).2).2).2).2
theorem exg2 {K : PySem.W.Frag} (h : exl K = true) : exl2 K = true := (He.ba (He.ba (He.ba h).2).2).1
theorem ex_40 {K : PySem.W.Frag} (h : exl K = true) : (decide (tupW K (He.ga K "HOWS") = some (["narrow", "wide", "both", "narrow first", "wide first"] : List Str))) = true := (He.ba (exg2 h)).1
theorem ex_41 {K : PySem.W.Frag} (h : exl K = true) : (decide (PySem.W.nsIn K mainGlobals "IN_TWO_EVENTS" = some (some (.ref (He.ga K "IN_TWO_EVENTS"))))) = true := (He.ba (He.ba (exg2 h)).2).1
theorem ex_42 {K : PySem.W.Frag} (h : exl K = true) : (decide (tupW K (He.ga K "IN_TWO_EVENTS") = some (["narrow first", "wide first"] : List Str))) = true := (He.ba (He.ba (He.ba (exg2 h)).2).2).1
theorem ex_43 {K : PySem.W.Frag} (h : exl K = true) : (decide (PySem.W.nsIn K mainGlobals "STEP_FORMS" = some (some (.ref (He.ga K "STEP_FORMS"))))) = true := (He.ba (He.ba (He.ba (He.ba (exg2 h)).2).2).2).1
theorem ex_44 {K : PySem.W.Frag} (h : exl K = true) : (tabOk K (He.ga K "STEP_FORMS") t_STEP_FORMS) = true := (He.ba (He.ba (He.ba (He.ba (He.ba (exg2 h)).2).2).2).2).1
theorem ex_45 {K : PySem.W.Frag} (h : exl K = true) : (decide (PySem.W.nsIn K mainGlobals "dict" = some none)) = true := (He.ba (He.ba (He.ba (He.ba (He.ba (He.ba (exg2 h)).2).2).2).2).2).1
theorem ex_46 {K : PySem.W.Frag} (h : exl K = true) : (decide (PySem.W.specialIn K (.builtin "object.__class__") "__get__" = some (some (.builtin "getset_descriptor.__get__")))) = true := (He.ba (He.ba (He.ba (He.ba (He.ba (He.ba (He.ba (exg2 h)).2).2).2).2).2).2).1
theorem ex_47 {K : PySem.W.Frag} (h : exl K = true) : (decide (PySem.W.takesIn K (.builtin "object.__class__") = some true)) = true := (He.ba (He.ba (He.ba (He.ba (He.ba (He.ba (He.ba (He.ba (exg2 h)).2).2).2).2).2).2).2).1
theorem ex_48 {K : PySem.W.Frag} (h : exl K = true) : (decide (PySem.W.nsIn K mainGlobals "sorted" = some none)) = true := (He.ba (He.ba (He.ba (He.ba (He.ba (He.ba (He.ba (He.ba (He.ba (exg2 h)).2).2).2).2).2).2).2).2).1
theorem ex_49 {K : PySem.W.Frag} (h : exl K = true) : (decide (PySem.W.nsIn K mainGlobals "editions_of" = some (some (.ref (He.ga K "editions_of"))))) = true := (He.ba (He.ba (He.ba (He.ba (He.ba (He.ba (He.ba (He.ba (He.ba (He.ba (exg2 h)).2).2).2).2).2).2).2).2).2).1
theorem ex_50 {K : PySem.W.Frag} (h : exl K = true) : (decide (PySem.W.nsIn K mainGlobals "is_integer" = some (some (.ref (He.ga K "is_integer"))))) = true := (He.ba (He.ba (He.ba (He.ba (He.ba (He.ba (He.ba (He.ba (He.ba (He.ba (He.ba (exg2 h)).2).2).2).2).2).2).2).2).2).2).1
theorem ex_51 {K : PySem.W.Frag} (h : exl K = true) : (decide (PySem.W.nsIn K mainGlobals "is_between" = some (some (.ref (He.ga K "is_between"))))) = true := (He.ba (He.ba (He.ba (He.ba (He.ba (He.ba (He.ba (He.ba (He.ba (He.ba (He.ba (He.ba (exg2 h)).2).2).2).2).2).2).2).2).2).2).2).1
theorem ex_52 {K : PySem.W.Frag} (h : exl K = true) : (decide (PySem.W.nsIn K mainGlobals "is_name" = some (some (.ref (He.ga K "is_name"))))) = true := (He.ba (He.ba (He.ba (He.ba (He.ba (He.ba (He.ba (He.ba (He.ba (He.ba (He.ba (He.ba (He.ba (exg2 h)).2).2).2).2).2).2).2).2).2).2).2).2).1
theorem ex_53 {K : PySem.W.Frag} (h : exl K = true) : (decide (PySem.W.nsIn K mainGlobals "is_tuple_of" = some (some (.ref (He.ga K "is_tuple_of"))))) = true := (He.ba (He.ba (He.ba (He.ba (He.ba (He.ba (He.ba (He.ba (He.ba (He.ba (He.ba (He.ba (He.ba (He.ba (exg2 h)).2).2).2).2).2).2).2).2).2).2).2).2).2).1
theorem ex_54 {K : PySem.W.Frag} (h : exl K = true) : (decide (PySem.W.nsIn K mainGlobals "is_ascending" = some (some (.ref (He.ga K "is_ascending"))))) = true := (He.ba (He.ba (He.ba (He.ba (He.ba (He.ba (He.ba (He.ba (He.ba (He.ba (He.ba (He.ba (He.ba (He.ba (He.ba (exg2 h)).2).2).2).2).2).2).2).2).2).2).2).2).2).2).1
theorem ex_55 {K : PySem.W.Frag} (h : exl K = true) : (decide (PySem.W.nsIn K mainGlobals "step_form" = some (some (.ref (He.ga K "step_form"))))) = true := (He.ba (He.ba (He.ba (He.ba (He.ba (He.ba (He.ba (He.ba (He.ba (He.ba (He.ba (He.ba (He.ba (He.ba (He.ba (He.ba (exg2 h)).2).2).2).2).2).2).2).2).2).2).2).2).2).2).2).1
theorem ex_56 {K : PySem.W.Frag} (h : exl K = true) : (decide (PySem.W.nsIn K mainGlobals "is_plain_part" = some (some (.ref (He.ga K "is_plain_part"))))) = true := (He.ba (He.ba (He.ba (He.ba (He.ba (He.ba (He.ba (He.ba (He.ba (He.ba (He.ba (He.ba (He.ba (He.ba (He.ba (He.ba (He.ba (exg2 h)).2).2).2).2).2).2).2).2).2).2).2).2).2).2).2).2).1
theorem ex_57 {K : PySem.W.Frag} (h : exl K = true) : (decide (PySem.W.nsIn K mainGlobals "is_count" = some (some (.ref (He.ga K "is_count"))))) = true := (He.ba (He.ba (He.ba (He.ba (He.ba (He.ba (He.ba (He.ba (He.ba (He.ba (He.ba (He.ba (He.ba (He.ba (He.ba (He.ba (He.ba (He.ba (exg2 h)).2).2).2).2).2).2).2).2).2).2).2).2).2).2).2).2).2).1
theorem ex_58 {K : PySem.W.Frag} (h : exl K = true) : (decide (PySem.W.nsIn K mainGlobals "_first_word" = some (some (.ref (He.ga K "_first_word"))))) = true := (He.ba (He.ba (He.ba (He.ba (He.ba (He.ba (He.ba (He.ba (He.ba (He.ba (He.ba (He.ba (He.ba (He.ba (He.ba (He.ba (He.ba (He.ba (He.ba (exg2 h)).2).2).2).2).2).2).2).2).2).2).2).2).2).2).2).2).2).2).1
theorem ex_59 {K : PySem.W.Frag} (h : exl K = true) : (decide (PySem.W.nsIn K mainGlobals "is_step" = some (some (.ref (He.ga K "is_step"))))) = true := (He.ba (He.ba (He.ba (He.ba (He.ba (He.ba (He.ba (He.ba (He.ba (He.ba (He.ba (He.ba (He.ba (He.ba (He.ba (He.ba (He.ba (He.ba (He.ba (exg2 h)).2).2).2).2).2).2).2).2).2).2).2).2).2).2).2).2).2).2).2
theorem exg3 {K : PySem.W.Frag} (h : exl K = true) : exl3 K = true := (He.ba (He.ba (He.ba (He.ba h).2).2).2).1
theorem ex_60 {K : PySem.W.Frag} (h : exl K = true) : (decide (PySem.W.nsIn K mainGlobals "are_parts" = some (some (.ref (He.ga K "are_parts"))))) = true := (He.ba (exg3 h)).1
theorem ex_61 {K : PySem.W.Frag} (h : exl K = true) : (decide (PySem.W.nsIn K mainGlobals "_is_part" = some (some (.ref (He.ga K "_is_part"))))) = true := (He.ba (He.ba (exg3 h)).2).1
theorem ex_62 {K : PySem.W.Frag} (h : exl K = true) : (decide (PySem.W.findIn K (.ref (He.ga K "Kind")) "__init__" = some (some (.ref (He.ma K (He.ga K "Kind") "__init__"))))) = true := (He.ba (He.ba (He.ba (exg3 h)).2).2).1
theorem ex_63 {K : PySem.W.Frag} (h : exl K = true) : (PySem.W.isFn K (.ref (He.ma K (He.ga K "Kind") "__init__"))) = true := (He.ba (He.ba (He.ba (He.ba (exg3 h)).2).2).2).1
theorem ex_64 {K : PySem.W.Frag} (h : exl K = true) : (decide (PySem.W.findIn K (.ref (He.ga K "Kind")) "__eq__" = some (some (.ref (He.ma K (He.ga K "Kind") "__eq__"))))) = true := (He.ba (He.ba (He.ba (He.ba (He.ba (exg3 h)).2).2).2).2).1
theorem ex_65 {K : PySem.W.Frag} (h : exl K = true) : (PySem.W.isFn K (.ref (He.ma K (He.ga K "Kind") "__eq__"))) = true := (He.ba (He.ba (He.ba (He.ba (He.ba (He.ba (exg3 h)).2).2).2).2).2).1
theorem ex_66 {K : PySem.W.Frag} (h : exl K = true) : (decide (PySem.W.findIn K (.ref (He.ga K "Kind")) "__le__" = some (some (.ref (He.ma K (He.ga K "Kind") "__le__"))))) = true := (He.ba (He.ba (He.ba (He.ba (He.ba (He.ba (He.ba (exg3 h)).2).2).2).2).2).2).1
theorem ex_67 {K : PySem.W.Frag} (h : exl K = true) : (PySem.W.isFn K (.ref (He.ma K (He.ga K "Kind") "__le__"))) = true := (He.ba (He.ba (He.ba (He.ba (He.ba (He.ba (He.ba (He.ba (exg3 h)).2).2).2).2).2).2).2).1
theorem ex_68 {K : PySem.W.Frag} (h : exl K = true) : (decide (PySem.W.findIn K (.ref (He.ga K "Kind")) "__lt__" = some (some (.ref (He.ma K (He.ga K "Kind") "__lt__"))))) = true := (He.ba (He.ba (He.ba (He.ba (He.ba (He.ba (He.ba (He.ba (He.ba (exg3 h)).2).2).2).2).2).2).2).2).1
theorem ex_69 {K : PySem.W.Frag} (h : exl K = true) : (PySem.W.isFn K (.ref (He.ma K (He.ga K "Kind") "__lt__"))) = true := (He.ba (He.ba (He.ba (He.ba (He.ba (He.ba (He.ba (He.ba (He.ba (He.ba (exg3 h)).2).2).2).2).2).2).2).2).2).1
theorem ex_70 {K : PySem.W.Frag} (h : exl K = true) : (decide (PySem.W.findIn K (.ref (He.ga K "World")) "__init__" = some (some (.ref (He.ma K (He.ga K "World") "__init__"))))) = true := (He.ba (He.ba (He.ba (He.ba (He.ba (He.ba (He.ba (He.ba (He.ba (He.ba (He.ba (exg3 h)).2).2).2).2).2).2).2).2).2).2).1
theorem ex_71 {K : PySem.W.Frag} (h : exl K = true) : (PySem.W.isFn K (.ref (He.ma K (He.ga K "World") "__init__"))) = true := (He.ba (He.ba (He.ba (He.ba (He.ba (He.ba (He.ba (He.ba (He.ba (He.ba (He.ba (He.ba (exg3 h)).2).2).2).2).2).2).2).2).2).2).2).1
theorem ex_72 {K : PySem.W.Frag} (h : exl K = true) : (decide (PySem.W.nsIn K mainGlobals "_are_kinds" = some (some (.ref (He.ga K "_are_kinds"))))) = true := (He.ba (He.ba (He.ba (He.ba (He.ba (He.ba (He.ba (He.ba (He.ba (He.ba (He.ba (He.ba (He.ba (exg3 h)).2).2).2).2).2).2).2).2).2).2).2).2).1
theorem ex_73 {K : PySem.W.Frag} (h : exl K = true) : (decide (PySem.W.nsIn K mainGlobals "_are_columns" = some (some (.ref (He.ga K "_are_columns"))))) = true := (He.ba (He.ba (He.ba (He.ba (He.ba (He.ba (He.ba (He.ba (He.ba (He.ba (He.ba (He.ba (He.ba (He.ba (exg3 h)).2).2).2).2).2).2).2).2).2).2).2).2).2).1
theorem ex_74 {K : PySem.W.Frag} (h : exl K = true) : (decide (PySem.W.nsIn K mainGlobals "_are_programs" = some (some (.ref (He.ga K "_are_programs"))))) = true := (He.ba (He.ba (He.ba (He.ba (He.ba (He.ba (He.ba (He.ba (He.ba (He.ba (He.ba (He.ba (He.ba (He.ba (He.ba (exg3 h)).2).2).2).2).2).2).2).2).2).2).2).2).2).2).1
theorem ex_75 {K : PySem.W.Frag} (h : exl K = true) : (decide (PySem.W.nsIn K mainGlobals "_is_program" = some (some (.ref (He.ga K "_is_program"))))) = true := (He.ba (He.ba (He.ba (He.ba (He.ba (He.ba (He.ba (He.ba (He.ba (He.ba (He.ba (He.ba (He.ba (He.ba (He.ba (He.ba (exg3 h)).2).2).2).2).2).2).2).2).2).2).2).2).2).2).2).1
theorem ex_76 {K : PySem.W.Frag} (h : exl K = true) : (decide (PySem.W.nsIn K mainGlobals "_is_edition" = some (some (.ref (He.ga K "_is_edition"))))) = true := (He.ba (He.ba (He.ba (He.ba (He.ba (He.ba (He.ba (He.ba (He.ba (He.ba (He.ba (He.ba (He.ba (He.ba (He.ba (He.ba (He.ba (exg3 h)).2).2).2).2).2).2).2).2).2).2).2).2).2).2).2).2).1
theorem ex_77 {K : PySem.W.Frag} (h : exl K = true) : (decide (PySem.W.nsIn K mainGlobals "_are_rows" = some (some (.ref (He.ga K "_are_rows"))))) = true := (He.ba (He.ba (He.ba (He.ba (He.ba (He.ba (He.ba (He.ba (He.ba (He.ba (He.ba (He.ba (He.ba (He.ba (He.ba (He.ba (He.ba (He.ba (exg3 h)).2).2).2).2).2).2).2).2).2).2).2).2).2).2).2).2).2).1
theorem ex_78 {K : PySem.W.Frag} (h : exl K = true) : (decide (PySem.W.nsIn K mainGlobals "_is_read" = some (some (.ref (He.ga K "_is_read"))))) = true := (He.ba (He.ba (He.ba (He.ba (He.ba (He.ba (He.ba (He.ba (He.ba (He.ba (He.ba (He.ba (He.ba (He.ba (He.ba (He.ba (He.ba (He.ba (He.ba (exg3 h)).2).2).2).2).2).2).2).2).2).2).2).2).2).2).2).2).2).2).1
theorem ex_79 {K : PySem.W.Frag} (h : exl K = true) : (decide (PySem.W.nsIn K mainGlobals "_is_write" = some (some (.ref (He.ga K "_is_write"))))) = true := (He.ba (He.ba (He.ba (He.ba (He.ba (He.ba (He.ba (He.ba (He.ba (He.ba (He.ba (He.ba (He.ba (He.ba (He.ba (He.ba (He.ba (He.ba (He.ba (exg3 h)).2).2).2).2).2).2).2).2).2).2).2).2).2).2).2).2).2).2).2
theorem exg4 {K : PySem.W.Frag} (h : exl K = true) : exl4 K = true := (He.ba (He.ba (He.ba (He.ba (He.ba h).2).2).2).2).1
theorem ex_80 {K : PySem.W.Frag} (h : exl K = true) : (decide (PySem.W.nsIn K mainGlobals "_is_first_edition" = some (some (.ref (He.ga K "_is_first_edition"))))) = true := (He.ba (exg4 h)).1
theorem ex_81 {K : PySem.W.Frag} (h : exl K = true) : (decide (PySem.W.nsIn K mainGlobals "_many_in_two_events" = some (some (.ref (He.ga K "_many_in_two_events"))))) = true := (He.ba (He.ba (exg4 h)).2).1
theorem ex_82 {K : PySem.W.Frag} (h : exl K = true) : (decide (PySem.W.nsIn K mainGlobals "_law_pot_of" = some (some (.ref (He.ga K "_law_pot_of"))))) = true := (He.ba (He.ba (He.ba (exg4 h)).2).2).1
theorem ex_83 {K : PySem.W.Frag} (h : exl K = true) : (decide (PySem.W.nsIn K mainGlobals "_law_take" = some (some (.ref (He.ga K "_law_take"))))) = true := (He.ba (He.ba (He.ba (He.ba (exg4 h)).2).2).2).1
theorem ex_84 {K : PySem.W.Frag} (h : exl K = true) : (decide (PySem.W.nsIn K mainGlobals "_law_of" = some (some (.ref (He.ga K "_law_of"))))) = true := (He.ba (He.ba (He.ba (He.ba (He.ba (exg4 h)).2).2).2).2).1
theorem ex_85 {K : PySem.W.Frag} (h : exl K = true) : (decide (PySem.W.nsIn K mainGlobals "_law_some_names" = some (some (.ref (He.ga K "_law_some_names"))))) = true := (He.ba (He.ba (He.ba (He.ba (He.ba (He.ba (exg4 h)).2).2).2).2).2).1
theorem ex_86 {K : PySem.W.Frag} (h : exl K = true) : (decide (PySem.W.nsIn K mainGlobals "_law_reads" = some (some (.ref (He.ga K "_law_reads"))))) = true := (He.ba (He.ba (He.ba (He.ba (He.ba (He.ba (He.ba (exg4 h)).2).2).2).2).2).2).1
theorem ex_87 {K : PySem.W.Frag} (h : exl K = true) : (decide (PySem.W.nsIn K mainGlobals "_law_writes" = some (some (.ref (He.ga K "_law_writes"))))) = true := (He.ba (He.ba (He.ba (He.ba (He.ba (He.ba (He.ba (He.ba (exg4 h)).2).2).2).2).2).2).2).1
theorem ex_88 {K : PySem.W.Frag} (h : exl K = true) : (decide (PySem.W.nsIn K mainGlobals "_law_editions" = some (some (.ref (He.ga K "_law_editions"))))) = true := (He.ba (He.ba (He.ba (He.ba (He.ba (He.ba (He.ba (He.ba (He.ba (exg4 h)).2).2).2).2).2).2).2).2).1
theorem ex_89 {K : PySem.W.Frag} (h : exl K = true) : (decide (PySem.W.nsIn K mainGlobals "_law_world" = some (some (.ref (He.ga K "_law_world"))))) = true := (He.ba (He.ba (He.ba (He.ba (He.ba (He.ba (He.ba (He.ba (He.ba (He.ba (exg4 h)).2).2).2).2).2).2).2).2).2).1
theorem ex_90 {K : PySem.W.Frag} (h : exl K = true) : (decide (PySem.W.nsIn K mainGlobals "_law_made" = some (some (.ref (He.ga K "_law_made"))))) = true := (He.ba (He.ba (He.ba (He.ba (He.ba (He.ba (He.ba (He.ba (He.ba (He.ba (He.ba (exg4 h)).2).2).2).2).2).2).2).2).2).2).1
theorem ex_91 {K : PySem.W.Frag} (h : exl K = true) : (decide (PySem.W.nsIn K mainGlobals "_law_is_fit" = some (some (.ref (He.ga K "_law_is_fit"))))) = true := (He.ba (He.ba (He.ba (He.ba (He.ba (He.ba (He.ba (He.ba (He.ba (He.ba (He.ba (He.ba (exg4 h)).2).2).2).2).2).2).2).2).2).2).2).1
theorem ex_92 {K : PySem.W.Frag} (h : exl K = true) : (decide (PySem.W.nsIn K mainGlobals "_law_span" = some (some (.ref (He.ga K "_law_span"))))) = true := (He.ba (He.ba (He.ba (He.ba (He.ba (He.ba (He.ba (He.ba (He.ba (He.ba (He.ba (He.ba (He.ba (exg4 h)).2).2).2).2).2).2).2).2).2).2).2).2).1
theorem ex_93 {K : PySem.W.Frag} (h : exl K = true) : (decide (PySem.W.nsIn K mainGlobals "_law_first_state" = some (some (.ref (He.ga K "_law_first_state"))))) = true := (He.ba (He.ba (He.ba (He.ba (He.ba (He.ba (He.ba (He.ba (He.ba (He.ba (He.ba (He.ba (He.ba (He.ba (exg4 h)).2).2).2).2).2).2).2).2).2).2).2).2).2).1
theorem ex_94 {K : PySem.W.Frag} (h : exl K = true) : (decide (PySem.W.nsIn K mainGlobals "_law_column_steps" = some (some (.ref (He.ga K "_law_column_steps"))))) = true := (He.ba (He.ba (He.ba (He.ba (He.ba (He.ba (He.ba (He.ba (He.ba (He.ba (He.ba (He.ba (He.ba (He.ba (He.ba (exg4 h)).2).2).2).2).2).2).2).2).2).2).2).2).2).2).1
theorem ex_95 {K : PySem.W.Frag} (h : exl K = true) : (decide (PySem.W.nsIn K mainGlobals "_law_span_steps" = some (some (.ref (He.ga K "_law_span_steps"))))) = true := (He.ba (He.ba (He.ba (He.ba (He.ba (He.ba (He.ba (He.ba (He.ba (He.ba (He.ba (He.ba (He.ba (He.ba (He.ba (He.ba (exg4 h)).2).2).2).2).2).2).2).2).2).2).2).2).2).2).2).1
theorem ex_96 {K : PySem.W.Frag} (h : exl K = true) : (decide (PySem.W.nsIn K mainGlobals "_law_menu" = some (some (.ref (He.ga K "_law_menu"))))) = true := (He.ba (He.ba (He.ba (He.ba (He.ba (He.ba (He.ba (He.ba (He.ba (He.ba (He.ba (He.ba (He.ba (He.ba (He.ba (He.ba (He.ba (exg4 h)).2).2).2).2).2).2).2).2).2).2).2).2).2).2).2).2).1
theorem ex_97 {K : PySem.W.Frag} (h : exl K = true) : (decide (PySem.W.nsIn K mainGlobals "_law_odd" = some (some (.ref (He.ga K "_law_odd"))))) = true := (He.ba (He.ba (He.ba (He.ba (He.ba (He.ba (He.ba (He.ba (He.ba (He.ba (He.ba (He.ba (He.ba (He.ba (He.ba (He.ba (He.ba (He.ba (exg4 h)).2).2).2).2).2).2).2).2).2).2).2).2).2).2).2).2).2).1
theorem ex_98 {K : PySem.W.Frag} (h : exl K = true) : (decide (PySem.W.nsIn K mainGlobals "_law_fits" = some (some (.ref (He.ga K "_law_fits"))))) = true := (He.ba (He.ba (He.ba (He.ba (He.ba (He.ba (He.ba (He.ba (He.ba (He.ba (He.ba (He.ba (He.ba (He.ba (He.ba (He.ba (He.ba (He.ba (He.ba (exg4 h)).2).2).2).2).2).2).2).2).2).2).2).2).2).2).2).2).2).2).1
theorem ex_99 {K : PySem.W.Frag} (h : exl K = true) : (decide (PySem.W.nsIn K mainGlobals "_law_is_step" = some (some (.ref (He.ga K "_law_is_step"))))) = true := (He.ba (He.ba (He.ba (He.ba (He.ba (He.ba (He.ba (He.ba (He.ba (He.ba (He.ba (He.ba (He.ba (He.ba (He.ba (He.ba (He.ba (He.ba (He.ba (exg4 h)).2).2).2).2).2).2).2).2).2).2).2).2).2).2).2).2).2).2).2
theorem exg5 {K : PySem.W.Frag} (h : exl K = true) : exl5 K = true := (He.ba (He.ba (He.ba (He.ba (He.ba h).2).2).2).2).2
theorem ex_100 {K : PySem.W.Frag} (h : exl K = true) : (decide (PySem.W.nsIn K mainGlobals "_law_values" = some (some (.ref (He.ga K "_law_values"))))) = true := (He.ba (exg5 h)).1
theorem ex_101 {K : PySem.W.Frag} (h : exl K = true) : (decide (PySem.W.nsIn K mainGlobals "_law_right" = some (some (.ref (He.ga K "_law_right"))))) = true := (He.ba (He.ba (exg5 h)).2).1
theorem ex_102 {K : PySem.W.Frag} (h : exl K = true) : (decide (PySem.W.nsIn K mainGlobals "law" = some (some (.ref (He.ga K "law"))))) = true := (He.ba (He.ba (He.ba (exg5 h)).2).2).1
theorem ex_103 {K : PySem.W.Frag} (h : exl K = true) : (decide (PySem.W.nsIn K mainGlobals "int" = some none)) = true := (He.ba (He.ba (He.ba (He.ba (exg5 h)).2).2).2).1
theorem ex_104 {K : PySem.W.Frag} (h : exl K = true) : (decide (PySem.W.nsIn K mainGlobals "len" = some none)) = true := (He.ba (He.ba (He.ba (He.ba (He.ba (exg5 h)).2).2).2).2).1
theorem ex_105 {K : PySem.W.Frag} (h : exl K = true) : (decide (PySem.W.nsIn K mainGlobals "abs" = some none)) = true := (He.ba (He.ba (He.ba (He.ba (He.ba (He.ba (exg5 h)).2).2).2).2).2).1
theorem ex_106 {K : PySem.W.Frag} (h : exl K = true) : (decide (PySem.W.nsIn K mainGlobals "bool" = some none)) = true := (He.ba (He.ba (He.ba (He.ba (He.ba (He.ba (He.ba (exg5 h)).2).2).2).2).2).2).1
theorem ex_107 {K : PySem.W.Frag} (h : exl K = true) : (decide (PySem.W.nsIn K mainGlobals "tuple" = some none)) = true := (He.ba (He.ba (He.ba (He.ba (He.ba (He.ba (He.ba (He.ba (exg5 h)).2).2).2).2).2).2).2).1
theorem ex_108 {K : PySem.W.Frag} (h : exl K = true) : (decide (PySem.W.nsIn K mainGlobals "isinstance" = some none)) = true := (He.ba (He.ba (He.ba (He.ba (He.ba (He.ba (He.ba (He.ba (He.ba (exg5 h)).2).2).2).2).2).2).2).2).1
theorem ex_109 {K : PySem.W.Frag} (h : exl K = true) : (decide (PySem.W.nsIn K mainGlobals "range" = some none)) = true := (He.ba (He.ba (He.ba (He.ba (He.ba (He.ba (He.ba (He.ba (He.ba (He.ba (exg5 h)).2).2).2).2).2).2).2).2).2).1
theorem ex_110 {K : PySem.W.Frag} (h : exl K = true) : (decide (PySem.W.nsIn K mainGlobals "max" = some none)) = true := (He.ba (He.ba (He.ba (He.ba (He.ba (He.ba (He.ba (He.ba (He.ba (He.ba (He.ba (exg5 h)).2).2).2).2).2).2).2).2).2).2).1
theorem ex_111 {K : PySem.W.Frag} (h : exl K = true) : (decide (PySem.W.nsIn K mainGlobals "min" = some none)) = true := (He.ba (He.ba (He.ba (He.ba (He.ba (He.ba (He.ba (He.ba (He.ba (He.ba (He.ba (He.ba (exg5 h)).2).2).2).2).2).2).2).2).2).2).2).1
theorem ex_112 {K : PySem.W.Frag} (h : exl K = true) : (decide (PySem.W.nsIn K mainGlobals "all" = some none)) = true := (He.ba (He.ba (He.ba (He.ba (He.ba (He.ba (He.ba (He.ba (He.ba (He.ba (He.ba (He.ba (He.ba (exg5 h)).2).2).2).2).2).2).2).2).2).2).2).2).1
theorem ex_113 {K : PySem.W.Frag} (h : exl K = true) : (decide (PySem.W.nsIn K mainGlobals "repr" = some none)) = true := (He.ba (He.ba (He.ba (He.ba (He.ba (He.ba (He.ba (He.ba (He.ba (He.ba (He.ba (He.ba (He.ba (He.ba (exg5 h)).2).2).2).2).2).2).2).2).2).2).2).2).2).1
theorem ex_114 {K : PySem.W.Frag} (h : exl K = true) : (decide (PySem.W.nsIn K mainGlobals "str" = some none)) = true := (He.ba (He.ba (He.ba (He.ba (He.ba (He.ba (He.ba (He.ba (He.ba (He.ba (He.ba (He.ba (He.ba (He.ba (He.ba (exg5 h)).2).2).2).2).2).2).2).2).2).2).2).2).2).2).1
theorem ex_115 {K : PySem.W.Frag} (h : exl K = true) : (decide (PySem.W.nsIn K mainGlobals "any" = some none)) = true := (He.ba (He.ba (He.ba (He.ba (He.ba (He.ba (He.ba (He.ba (He.ba (He.ba (He.ba (He.ba (He.ba (He.ba (He.ba (He.ba (exg5 h)).2).2).2).2).2).2).2).2).2).2).2).2).2).2).2).1
theorem ex_116 {K : PySem.W.Frag} (h : exl K = true) : (decide (PySem.W.nsIn K mainGlobals "list" = some none)) = true := (He.ba (He.ba (He.ba (He.ba (He.ba (He.ba (He.ba (He.ba (He.ba (He.ba (He.ba (He.ba (He.ba (He.ba (He.ba (He.ba (He.ba (exg5 h)).2).2).2).2).2).2).2).2).2).2).2).2).2).2).2).2).1
theorem ex_117 {K : PySem.W.Frag} (h : exl K = true) : (decide (PySem.W.nsIn K mainGlobals "zip" = some none)) = true := (He.ba (He.ba (He.ba (He.ba (He.ba (He.ba (He.ba (He.ba (He.ba (He.ba (He.ba (He.ba (He.ba (He.ba (He.ba (He.ba (He.ba (He.ba (exg5 h)).2).2).2).2).2).2).2).2).2).2).2).2).2).2).2).2).2).1
theorem ex_118 {K : PySem.W.Frag} (h : exl K = true) : (decide (PySem.W.nsIn K mainGlobals "enumerate" = some none)) = true := (He.ba (He.ba (He.ba (He.ba (He.ba (He.ba (He.ba (He.ba (He.ba (He.ba (He.ba (He.ba (He.ba (He.ba (He.ba (He.ba (He.ba (He.ba (exg5 h)).2).2).2).2).2).2).2).2).2).2).2).2).2).2).2).2).2).2
def lo0 : List Str := [("editions_of" : Str), ("WidthError" : Str), ("BadKind" : Str), ("BadNumber" : Str), ("BadBits" : Str), ("BadText" : Str), ("BadWorld" : Str), ("MOST_FIGURES" : Str), ("is_integer" : Str), ("is_between" : Str), ("lesser" : Str), ("greater" : Str), ("read_integer" : Str), ("SIDES" : Str), ("RULES" : Str), ("MANNERS" : Str), ("MOST_LETTERS" : Str), ("STEP_FORMS" : Str), ("is_name" : Str), ("is_tuple_of" : Str), ("is_ascending" : Str), ("step_form" : Str), ("is_plain_part" : Str), ("is_count" : Str), ("_first_word" : Str)]
def lo1 : List Str := [("is_step" : Str), ("are_parts" : Str), ("_is_part" : Str), ("MOST_BITS" : Str), ("MOST_DIGITS" : Str), ("Kind" : Str), ("_power_of_ten" : Str), ("LEAST_NARROW" : Str), ("MOST_PACE" : Str), ("MOST_IN_TWO_EVENTS" : Str), ("DEEDS" : Str), ("READ_SIDES" : Str), ("HOWS" : Str), ("IN_TWO_EVENTS" : Str), ("World" : Str), ("_are_kinds" : Str), ("_are_columns" : Str), ("_are_programs" : Str), ("_is_program" : Str), ("_is_edition" : Str), ("_are_rows" : Str), ("_is_read" : Str), ("_is_write" : Str), ("_is_first_edition" : Str), ("_many_in_two_events" : Str)]
def lo2 : List Str := [("_law_pot_of" : Str), ("_law_take" : Str), ("_law_of" : Str), ("_law_some_names" : Str), ("_law_reads" : Str), ("_law_writes" : Str), ("_law_editions" : Str), ("_law_world" : Str), ("_law_made" : Str), ("_law_is_fit" : Str), ("_law_span" : Str), ("_law_first_state" : Str), ("_law_column_steps" : Str), ("_law_span_steps" : Str), ("_law_menu" : Str), ("_law_odd" : Str), ("_law_fits" : Str), ("_law_is_step" : Str), ("_law_values" : Str), ("_law_right" : Str)]
def los : List Str := lo0 ++ lo1 ++ lo2
abbrev R : PySem.W.OpenRow := PySem.W.OpenLaw.row PySem.Challenge.rw_widerkeys_k13_what_is_a_step
def asl0 : List Addr := [3, 21, 136, 143, 165, 166, 167, 168, 187, 194, 199, 206, 213, 220, 227, 234, 239, 246, 373, 385, 386, 387, 388, 412, 423, 428, 433, 438, 443, 448]
def asl1 : List Addr := [453, 460, 465, 470, 477, 484, 491, 496, 503, 508, 515, 522, 529, 536, 541, 546, 553, 560, 565, 570, 575, 580, 585, 592, 597, 20, 135, 142, 169, 170]
def asl2 : List Addr := [171, 172, 173, 174, 175, 176, 177, 178, 179, 180, 186, 193, 198, 205, 212, 219, 226, 233, 238, 245, 372, 411, 422, 427, 432, 437, 442, 447, 452, 459]
def asl3 : List Addr := [464, 469, 476, 483, 490, 495, 502, 507, 514, 521, 528, 535, 540, 545, 552, 559, 564, 569, 574, 579, 584, 591, 596, 260, 321, 328, 335, 402, 259, 320]
def asl4 : List Addr := [327, 334, 401]
def asl : List Addr := asl0 ++ asl1 ++ asl2 ++ asl3 ++ asl4
abbrev hk : PySem.W.Hook := hookL asl fnl tsl exl
def ob (s : PySem.W.SharedT) : AlL := obsL asl fnl tsl exl (HandSHeadRun.getT s)
theorem ob_eq (s : PySem.W.SharedT) : ob s = hk.obs s.abs := obsL_eq (HandSHeadRun.getT_eq s)
theorem runF (w : World) : HandSHeadRun.RunEq R (PySem.W.view R.prog [78]) hk ob 7000 los (w.withFollow "special-get-raises" false) := by
  intro os
  kernel_rfl
theorem runT (w : World) : HandSHeadRun.RunEq R (PySem.W.view R.prog [78]) hk ob 7000 los (w.withFollow "special-get-raises" true) := by
  intro os
  kernel_rfl
theorem run (w : World) : HandSHeadRun.RunEq R (PySem.W.view R.prog [78]) hk ob 7000 los w := PySem.W.byRow2 "special-get-raises" (P := fun w => HandSHeadRun.RunEq R (PySem.W.view R.prog [78]) hk ob 7000 los w) runF runT w
theorem facts {l : PySem.W.OpenLaw} {w : World} {K : PySem.W.Frag} {h : Heap} {mg : Str → Option Value} {fa : Addr} (X : K.In h) (G : h.Ns mainGlobals mg) (hfa : mg "law" = some (.ref fa)) (c : He.SaysT [] fnl tsl w K ∧ exl K = true) :
    ∃ fd : FuncData, (∀ (s : Shared) (v : Value), BindsTo s fd ⟨[v], []⟩ [("_law_script", v)]) ∧ ∀ base : Heap, K.In base → base.Ns mainGlobals mg → FnG l.prog w K mg base CX0 11 fa fd P_law (spLaw K) := by
  obtain ⟨_, hgnMOST_LETTERS⟩ := numB_ok (ex_25 c.2)
  obtain ⟨_, hgnLEAST_NARROW⟩ := numB_ok (ex_26 c.2)
  obtain ⟨_, hgnMOST_PACE⟩ := numB_ok (ex_27 c.2)
  obtain ⟨_, hgnMOST_IN_TWO_EVENTS⟩ := numB_ok (ex_28 c.2)
  obtain ⟨_, _, _, _, _, _, _, _, _, hleditions_of, hceditions_of, hkeditions_of⟩ := rawD (K := K) (x := "editions_of") (qual := "editions_of") (st := s_editions_of) (kws := []) (f := (He.ga K "editions_of")) (c.1.d.def_ 0 (d := dd0) rfl)
  obtain ⟨_, _, _, _, _, _, _, _, _, hlis_integer, hcis_integer, hkis_integer⟩ := rawD (K := K) (x := "is_integer") (qual := "is_integer") (st := s_is_integer) (kws := []) (f := (He.ga K "is_integer")) (c.1.d.def_ 1 (d := dd1) rfl)
  obtain ⟨_, _, _, _, _, _, _, _, _, hlis_between, hcis_between, hkis_between⟩ := rawD (K := K) (x := "is_between") (qual := "is_between") (st := s_is_between) (kws := []) (f := (He.ga K "is_between")) (c.1.d.def_ 2 (d := dd2) rfl)
  obtain ⟨_, _, _, _, _, _, _, _, _, hlis_name, hcis_name, hkis_name⟩ := rawD (K := K) (x := "is_name") (qual := "is_name") (st := s_is_name) (kws := []) (f := (He.ga K "is_name")) (c.1.d.def_ 3 (d := dd3) rfl)
  obtain ⟨_, _, _, _, _, _, _, _, _, hlis_tuple_of, hcis_tuple_of, hkis_tuple_of⟩ := rawD (K := K) (x := "is_tuple_of") (qual := "is_tuple_of") (st := s_is_tuple_of) (kws := []) (f := (He.ga K "is_tuple_of")) (c.1.d.def_ 4 (d := dd4) rfl)
  obtain ⟨_, _, _, _, _, _, _, _, _, hlis_ascending, hcis_ascending, hkis_ascending⟩ := rawD (K := K) (x := "is_ascending") (qual := "is_ascending") (st := s_is_ascending) (kws := []) (f := (He.ga K "is_ascending")) (c.1.d.def_ 5 (d := dd5) rfl)
  obtain ⟨_, _, _, _, _, _, _, _, _, hlstep_form, hcstep_form, hkstep_form⟩ := rawD (K := K) (x := "step_form") (qual := "step_form") (st := s_step_form) (kws := []) (f := (He.ga K "step_form")) (c.1.d.def_ 6 (d := dd6) rfl)
  obtain ⟨_, _, _, _, _, _, _, _, _, hlis_plain_part, hcis_plain_part, hkis_plain_part⟩ := rawD (K := K) (x := "is_plain_part") (qual := "is_plain_part") (st := s_is_plain_part) (kws := []) (f := (He.ga K "is_plain_part")) (c.1.d.def_ 7 (d := dd7) rfl)
  obtain ⟨_, _, _, _, _, _, _, _, _, hlis_count, hcis_count, hkis_count⟩ := rawD (K := K) (x := "is_count") (qual := "is_count") (st := s_is_count) (kws := []) (f := (He.ga K "is_count")) (c.1.d.def_ 8 (d := dd8) rfl)
  obtain ⟨_, _, _, _, _, _, _, _, _, hl_first_word, hc_first_word, hk_first_word⟩ := rawD (K := K) (x := "_first_word") (qual := "_first_word") (st := s__first_word) (kws := []) (f := (He.ga K "_first_word")) (c.1.d.def_ 9 (d := dd9) rfl)
  obtain ⟨_, _, _, _, _, _, _, _, _, hlis_step, hcis_step, hkis_step⟩ := rawD (K := K) (x := "is_step") (qual := "is_step") (st := s_is_step) (kws := []) (f := (He.ga K "is_step")) (c.1.d.def_ 10 (d := dd10) rfl)
  obtain ⟨_, _, _, _, _, _, _, _, _, hlare_parts, hcare_parts, hkare_parts⟩ := rawD (K := K) (x := "are_parts") (qual := "are_parts") (st := s_are_parts) (kws := []) (f := (He.ga K "are_parts")) (c.1.d.def_ 11 (d := dd11) rfl)
  obtain ⟨_, _, _, _, _, _, _, _, _, hl_is_part, hc_is_part, hk_is_part⟩ := rawD (K := K) (x := "_is_part") (qual := "_is_part") (st := s__is_part) (kws := []) (f := (He.ga K "_is_part")) (c.1.d.def_ 12 (d := dd12) rfl)
  obtain ⟨_, _, _, _, _, _, _, _, _, hlKind___init__, hcKind___init__, hkKind___init__⟩ := rawD (K := K) (x := "__init__") (qual := "Kind.__init__") (st := s_Kind___init__) (kws := []) (f := (He.ma K (He.ga K "Kind") "__init__")) (c.1.d.def_ 13 (d := dd13) rfl)
  obtain ⟨_, _, _, _, _, _, _, _, _, hlKind___eq__, hcKind___eq__, hkKind___eq__⟩ := rawD (K := K) (x := "__eq__") (qual := "Kind.__eq__") (st := s_Kind___eq__) (kws := []) (f := (He.ma K (He.ga K "Kind") "__eq__")) (c.1.d.def_ 14 (d := dd14) rfl)
  obtain ⟨_, _, _, _, _, _, _, _, _, hlKind___le__, hcKind___le__, hkKind___le__⟩ := rawD (K := K) (x := "__le__") (qual := "Kind.__le__") (st := s_Kind___le__) (kws := []) (f := (He.ma K (He.ga K "Kind") "__le__")) (c.1.d.def_ 15 (d := dd15) rfl)
  obtain ⟨_, _, _, _, _, _, _, _, _, hlKind___lt__, hcKind___lt__, hkKind___lt__⟩ := rawD (K := K) (x := "__lt__") (qual := "Kind.__lt__") (st := s_Kind___lt__) (kws := []) (f := (He.ma K (He.ga K "Kind") "__lt__")) (c.1.d.def_ 16 (d := dd16) rfl)
  obtain ⟨_, _, _, _, _, _, _, _, _, hlWorld___init__, hcWorld___init__, hkWorld___init__⟩ := rawD (K := K) (x := "__init__") (qual := "World.__init__") (st := s_World___init__) (kws := []) (f := (He.ma K (He.ga K "World") "__init__")) (c.1.d.def_ 17 (d := dd17) rfl)
  obtain ⟨_, _, _, _, _, _, _, _, _, hl_are_kinds, hc_are_kinds, hk_are_kinds⟩ := rawD (K := K) (x := "_are_kinds") (qual := "_are_kinds") (st := s__are_kinds) (kws := []) (f := (He.ga K "_are_kinds")) (c.1.d.def_ 18 (d := dd18) rfl)
  obtain ⟨_, _, _, _, _, _, _, _, _, hl_are_columns, hc_are_columns, hk_are_columns⟩ := rawD (K := K) (x := "_are_columns") (qual := "_are_columns") (st := s__are_columns) (kws := []) (f := (He.ga K "_are_columns")) (c.1.d.def_ 19 (d := dd19) rfl)
  obtain ⟨_, _, _, _, _, _, _, _, _, hl_are_programs, hc_are_programs, hk_are_programs⟩ := rawD (K := K) (x := "_are_programs") (qual := "_are_programs") (st := s__are_programs) (kws := []) (f := (He.ga K "_are_programs")) (c.1.d.def_ 20 (d := dd20) rfl)
  obtain ⟨_, _, _, _, _, _, _, _, _, hl_is_program, hc_is_program, hk_is_program⟩ := rawD (K := K) (x := "_is_program") (qual := "_is_program") (st := s__is_program) (kws := []) (f := (He.ga K "_is_program")) (c.1.d.def_ 21 (d := dd21) rfl)
  obtain ⟨_, _, _, _, _, _, _, _, _, hl_is_edition, hc_is_edition, hk_is_edition⟩ := rawD (K := K) (x := "_is_edition") (qual := "_is_edition") (st := s__is_edition) (kws := []) (f := (He.ga K "_is_edition")) (c.1.d.def_ 22 (d := dd22) rfl)
  obtain ⟨_, _, _, _, _, _, _, _, _, hl_are_rows, hc_are_rows, hk_are_rows⟩ := rawD (K := K) (x := "_are_rows") (qual := "_are_rows") (st := s__are_rows) (kws := []) (f := (He.ga K "_are_rows")) (c.1.d.def_ 23 (d := dd23) rfl)
  obtain ⟨_, _, _, _, _, _, _, _, _, hl_is_read, hc_is_read, hk_is_read⟩ := rawD (K := K) (x := "_is_read") (qual := "_is_read") (st := s__is_read) (kws := []) (f := (He.ga K "_is_read")) (c.1.d.def_ 24 (d := dd24) rfl)
  obtain ⟨_, _, _, _, _, _, _, _, _, hl_is_write, hc_is_write, hk_is_write⟩ := rawD (K := K) (x := "_is_write") (qual := "_is_write") (st := s__is_write) (kws := []) (f := (He.ga K "_is_write")) (c.1.d.def_ 25 (d := dd25) rfl)
  obtain ⟨_, _, _, _, _, _, _, _, _, hl_is_first_edition, hc_is_first_edition, hk_is_first_edition⟩ := rawD (K := K) (x := "_is_first_edition") (qual := "_is_first_edition") (st := s__is_first_edition) (kws := []) (f := (He.ga K "_is_first_edition")) (c.1.d.def_ 26 (d := dd26) rfl)
  obtain ⟨_, _, _, _, _, _, _, _, _, hl_many_in_two_events, hc_many_in_two_events, hk_many_in_two_events⟩ := rawD (K := K) (x := "_many_in_two_events") (qual := "_many_in_two_events") (st := s__many_in_two_events) (kws := []) (f := (He.ga K "_many_in_two_events")) (c.1.d.def_ 27 (d := dd27) rfl)
  obtain ⟨_, _, _, _, _, _, _, _, _, hl_law_pot_of, hc_law_pot_of, hk_law_pot_of⟩ := rawD (K := K) (x := "_law_pot_of") (qual := "_law_pot_of") (st := s__law_pot_of) (kws := []) (f := (He.ga K "_law_pot_of")) (c.1.d.def_ 28 (d := dd28) rfl)
  obtain ⟨_, _, _, _, _, _, _, _, _, hl_law_take, hc_law_take, hk_law_take⟩ := rawD (K := K) (x := "_law_take") (qual := "_law_take") (st := s__law_take) (kws := []) (f := (He.ga K "_law_take")) (c.1.d.def_ 29 (d := dd29) rfl)
  obtain ⟨_, _, _, _, _, _, _, _, _, hl_law_of, hc_law_of, hk_law_of⟩ := rawD (K := K) (x := "_law_of") (qual := "_law_of") (st := s__law_of) (kws := []) (f := (He.ga K "_law_of")) (c.1.d.def_ 30 (d := dd30) rfl)
  obtain ⟨_, _, _, _, _, _, _, _, _, hl_law_some_names, hc_law_some_names, hk_law_some_names⟩ := rawD (K := K) (x := "_law_some_names") (qual := "_law_some_names") (st := s__law_some_names) (kws := []) (f := (He.ga K "_law_some_names")) (c.1.d.def_ 31 (d := dd31) rfl)
  obtain ⟨_, _, _, _, _, _, _, _, _, hl_law_reads, hc_law_reads, hk_law_reads⟩ := rawD (K := K) (x := "_law_reads") (qual := "_law_reads") (st := s__law_reads) (kws := []) (f := (He.ga K "_law_reads")) (c.1.d.def_ 32 (d := dd32) rfl)
  obtain ⟨_, _, _, _, _, _, _, _, _, hl_law_writes, hc_law_writes, hk_law_writes⟩ := rawD (K := K) (x := "_law_writes") (qual := "_law_writes") (st := s__law_writes) (kws := []) (f := (He.ga K "_law_writes")) (c.1.d.def_ 33 (d := dd33) rfl)
  obtain ⟨_, _, _, _, _, _, _, _, _, hl_law_editions, hc_law_editions, hk_law_editions⟩ := rawD (K := K) (x := "_law_editions") (qual := "_law_editions") (st := s__law_editions) (kws := []) (f := (He.ga K "_law_editions")) (c.1.d.def_ 34 (d := dd34) rfl)
  obtain ⟨_, _, _, _, _, _, _, _, _, hl_law_world, hc_law_world, hk_law_world⟩ := rawD (K := K) (x := "_law_world") (qual := "_law_world") (st := s__law_world) (kws := []) (f := (He.ga K "_law_world")) (c.1.d.def_ 35 (d := dd35) rfl)
  obtain ⟨_, _, _, _, _, _, _, _, _, hl_law_made, hc_law_made, hk_law_made⟩ := rawD (K := K) (x := "_law_made") (qual := "_law_made") (st := s__law_made) (kws := []) (f := (He.ga K "_law_made")) (c.1.d.def_ 36 (d := dd36) rfl)
  obtain ⟨_, _, _, _, _, _, _, _, _, hl_law_is_fit, hc_law_is_fit, hk_law_is_fit⟩ := rawD (K := K) (x := "_law_is_fit") (qual := "_law_is_fit") (st := s__law_is_fit) (kws := []) (f := (He.ga K "_law_is_fit")) (c.1.d.def_ 37 (d := dd37) rfl)
  obtain ⟨_, _, _, _, _, _, _, _, _, hl_law_span, hc_law_span, hk_law_span⟩ := rawD (K := K) (x := "_law_span") (qual := "_law_span") (st := s__law_span) (kws := []) (f := (He.ga K "_law_span")) (c.1.d.def_ 38 (d := dd38) rfl)
  obtain ⟨_, _, _, _, _, _, _, _, _, hl_law_first_state, hc_law_first_state, hk_law_first_state⟩ := rawD (K := K) (x := "_law_first_state") (qual := "_law_first_state") (st := s__law_first_state) (kws := []) (f := (He.ga K "_law_first_state")) (c.1.d.def_ 39 (d := dd39) rfl)
  obtain ⟨_, _, _, _, _, _, _, _, _, hl_law_column_steps, hc_law_column_steps, hk_law_column_steps⟩ := rawD (K := K) (x := "_law_column_steps") (qual := "_law_column_steps") (st := s__law_column_steps) (kws := []) (f := (He.ga K "_law_column_steps")) (c.1.d.def_ 40 (d := dd40) rfl)
  obtain ⟨_, _, _, _, _, _, _, _, _, hl_law_span_steps, hc_law_span_steps, hk_law_span_steps⟩ := rawD (K := K) (x := "_law_span_steps") (qual := "_law_span_steps") (st := s__law_span_steps) (kws := []) (f := (He.ga K "_law_span_steps")) (c.1.d.def_ 41 (d := dd41) rfl)
  obtain ⟨_, _, _, _, _, _, _, _, _, hl_law_menu, hc_law_menu, hk_law_menu⟩ := rawD (K := K) (x := "_law_menu") (qual := "_law_menu") (st := s__law_menu) (kws := []) (f := (He.ga K "_law_menu")) (c.1.d.def_ 42 (d := dd42) rfl)
  obtain ⟨_, _, _, _, _, _, _, _, _, hl_law_odd, hc_law_odd, hk_law_odd⟩ := rawD (K := K) (x := "_law_odd") (qual := "_law_odd") (st := s__law_odd) (kws := []) (f := (He.ga K "_law_odd")) (c.1.d.def_ 43 (d := dd43) rfl)
  obtain ⟨_, _, _, _, _, _, _, _, _, hl_law_fits, hc_law_fits, hk_law_fits⟩ := rawD (K := K) (x := "_law_fits") (qual := "_law_fits") (st := s__law_fits) (kws := []) (f := (He.ga K "_law_fits")) (c.1.d.def_ 44 (d := dd44) rfl)
  obtain ⟨_, _, _, _, _, _, _, _, _, hl_law_is_step, hc_law_is_step, hk_law_is_step⟩ := rawD (K := K) (x := "_law_is_step") (qual := "_law_is_step") (st := s__law_is_step) (kws := []) (f := (He.ga K "_law_is_step")) (c.1.d.def_ 45 (d := dd45) rfl)
  obtain ⟨_, _, _, _, _, _, _, _, _, hl_law_values, hc_law_values, hk_law_values⟩ := rawD (K := K) (x := "_law_values") (qual := "_law_values") (st := s__law_values) (kws := []) (f := (He.ga K "_law_values")) (c.1.d.def_ 46 (d := dd46) rfl)
  obtain ⟨_, _, _, _, _, _, _, _, _, hl_law_right, hc_law_right, hk_law_right⟩ := rawD (K := K) (x := "_law_right") (qual := "_law_right") (st := s__law_right) (kws := []) (f := (He.ga K "_law_right")) (c.1.d.def_ 47 (d := dd47) rfl)
  obtain ⟨_, _, _, _, _, _, _, _, _, hllaw, hclaw, hklaw⟩ := rawD (K := K) (x := "law") (qual := "law") (st := s_law) (kws := []) (f := (He.ga K "law")) (c.1.d.def_ 48 (d := dd48) rfl)
  exact all_mk (l := l) (w := w) X G hfa (of_decide_eq_true (ex_0 c.2)) (ex_1 c.2) (ex_2 c.2) (ex_3 c.2) (of_decide_eq_true (ex_4 c.2)) (ex_5 c.2) (ex_6 c.2) (of_decide_eq_true (ex_7 c.2)) (of_decide_eq_true (ex_8 c.2)) (of_decide_eq_true (ex_9 c.2)) (of_decide_eq_true (ex_10 c.2)) (of_decide_eq_true (ex_11 c.2)) (of_decide_eq_true (ex_12 c.2)) (of_decide_eq_true (ex_13 c.2)) (ex_14 c.2) (ex_15 c.2) (ex_16 c.2) (of_decide_eq_true (ex_17 c.2)) (ex_18 c.2) (ex_19 c.2) (of_decide_eq_true (ex_20 c.2)) (of_decide_eq_true (ex_21 c.2)) (of_decide_eq_true (ex_22 c.2)) (of_decide_eq_true (ex_23 c.2)) (of_decide_eq_true (ex_24 c.2)) hgnMOST_LETTERS hgnLEAST_NARROW hgnMOST_PACE hgnMOST_IN_TWO_EVENTS (of_decide_eq_true (ex_29 c.2)) (of_decide_eq_true (ex_30 c.2)) (of_decide_eq_true (ex_31 c.2)) (of_decide_eq_true (ex_32 c.2)) (of_decide_eq_true (ex_33 c.2)) (of_decide_eq_true (ex_34 c.2)) (of_decide_eq_true (ex_35 c.2)) (of_decide_eq_true (ex_36 c.2)) (of_decide_eq_true (ex_37 c.2)) (of_decide_eq_true (ex_38 c.2)) (of_decide_eq_true (ex_39 c.2)) (of_decide_eq_true (ex_40 c.2)) (of_decide_eq_true (ex_41 c.2)) (of_decide_eq_true (ex_42 c.2)) (of_decide_eq_true (ex_43 c.2)) (tab_raw c.1 0 rfl) (ex_44 c.2) (of_decide_eq_true (ex_45 c.2)) (of_decide_eq_true (ex_46 c.2)) (of_decide_eq_true (ex_47 c.2)) (of_decide_eq_true (ex_48 c.2)) (of_decide_eq_true (ex_49 c.2)) hleditions_of hceditions_of hkeditions_of (of_decide_eq_true (ex_50 c.2)) hlis_integer hcis_integer hkis_integer (of_decide_eq_true (ex_51 c.2)) hlis_between hcis_between hkis_between (of_decide_eq_true (ex_52 c.2)) hlis_name hcis_name hkis_name (of_decide_eq_true (ex_53 c.2)) hlis_tuple_of hcis_tuple_of hkis_tuple_of (of_decide_eq_true (ex_54 c.2)) hlis_ascending hcis_ascending hkis_ascending (of_decide_eq_true (ex_55 c.2)) hlstep_form hcstep_form hkstep_form (of_decide_eq_true (ex_56 c.2)) hlis_plain_part hcis_plain_part hkis_plain_part (of_decide_eq_true (ex_57 c.2)) hlis_count hcis_count hkis_count (of_decide_eq_true (ex_58 c.2)) hl_first_word hc_first_word hk_first_word (of_decide_eq_true (ex_59 c.2)) hlis_step hcis_step hkis_step (of_decide_eq_true (ex_60 c.2)) hlare_parts hcare_parts hkare_parts (of_decide_eq_true (ex_61 c.2)) hl_is_part hc_is_part hk_is_part (of_decide_eq_true (ex_62 c.2)) (ex_63 c.2) hlKind___init__ hcKind___init__ hkKind___init__ (of_decide_eq_true (ex_64 c.2)) (ex_65 c.2) hlKind___eq__ hcKind___eq__ hkKind___eq__ (of_decide_eq_true (ex_66 c.2)) (ex_67 c.2) hlKind___le__ hcKind___le__ hkKind___le__ (of_decide_eq_true (ex_68 c.2)) (ex_69 c.2) hlKind___lt__ hcKind___lt__ hkKind___lt__ (of_decide_eq_true (ex_70 c.2)) (ex_71 c.2) hlWorld___init__ hcWorld___init__ hkWorld___init__ (of_decide_eq_true (ex_72 c.2)) hl_are_kinds hc_are_kinds hk_are_kinds (of_decide_eq_true (ex_73 c.2)) hl_are_columns hc_are_columns hk_are_columns (of_decide_eq_true (ex_74 c.2)) hl_are_programs hc_are_programs hk_are_programs (of_decide_eq_true (ex_75 c.2)) hl_is_program hc_is_program hk_is_program (of_decide_eq_true (ex_76 c.2)) hl_is_edition hc_is_edition hk_is_edition (of_decide_eq_true (ex_77 c.2)) hl_are_rows hc_are_rows hk_are_rows (of_decide_eq_true (ex_78 c.2)) hl_is_read hc_is_read hk_is_read (of_decide_eq_true (ex_79 c.2)) hl_is_write hc_is_write hk_is_write (of_decide_eq_true (ex_80 c.2)) hl_is_first_edition hc_is_first_edition hk_is_first_edition (of_decide_eq_true (ex_81 c.2)) hl_many_in_two_events hc_many_in_two_events hk_many_in_two_events (of_decide_eq_true (ex_82 c.2)) hl_law_pot_of hc_law_pot_of hk_law_pot_of (of_decide_eq_true (ex_83 c.2)) hl_law_take hc_law_take hk_law_take (of_decide_eq_true (ex_84 c.2)) hl_law_of hc_law_of hk_law_of (of_decide_eq_true (ex_85 c.2)) hl_law_some_names hc_law_some_names hk_law_some_names (of_decide_eq_true (ex_86 c.2)) hl_law_reads hc_law_reads hk_law_reads (of_decide_eq_true (ex_87 c.2)) hl_law_writes hc_law_writes hk_law_writes (of_decide_eq_true (ex_88 c.2)) hl_law_editions hc_law_editions hk_law_editions (of_decide_eq_true (ex_89 c.2)) hl_law_world hc_law_world hk_law_world (of_decide_eq_true (ex_90 c.2)) hl_law_made hc_law_made hk_law_made (of_decide_eq_true (ex_91 c.2)) hl_law_is_fit hc_law_is_fit hk_law_is_fit (of_decide_eq_true (ex_92 c.2)) hl_law_span hc_law_span hk_law_span (of_decide_eq_true (ex_93 c.2)) hl_law_first_state hc_law_first_state hk_law_first_state (of_decide_eq_true (ex_94 c.2)) hl_law_column_steps hc_law_column_steps hk_law_column_steps (of_decide_eq_true (ex_95 c.2)) hl_law_span_steps hc_law_span_steps hk_law_span_steps (of_decide_eq_true (ex_96 c.2)) hl_law_menu hc_law_menu hk_law_menu (of_decide_eq_true (ex_97 c.2)) hl_law_odd hc_law_odd hk_law_odd (of_decide_eq_true (ex_98 c.2)) hl_law_fits hc_law_fits hk_law_fits (of_decide_eq_true (ex_99 c.2)) hl_law_is_step hc_law_is_step hk_law_is_step (of_decide_eq_true (ex_100 c.2)) hl_law_values hc_law_values hk_law_values (of_decide_eq_true (ex_101 c.2)) hl_law_right hc_law_right hk_law_right (of_decide_eq_true (ex_102 c.2)) hllaw hclaw hklaw (of_decide_eq_true (ex_103 c.2)) (of_decide_eq_true (ex_104 c.2)) (of_decide_eq_true (ex_105 c.2)) (of_decide_eq_true (ex_106 c.2)) (of_decide_eq_true (ex_107 c.2)) (of_decide_eq_true (ex_108 c.2)) (of_decide_eq_true (ex_109 c.2)) (of_decide_eq_true (ex_110 c.2)) (of_decide_eq_true (ex_111 c.2)) (of_decide_eq_true (ex_112 c.2)) (of_decide_eq_true (ex_113 c.2)) (of_decide_eq_true (ex_114 c.2)) (of_decide_eq_true (ex_115 c.2)) (of_decide_eq_true (ex_116 c.2)) (of_decide_eq_true (ex_117 c.2)) (of_decide_eq_true (ex_118 c.2))
end Zd
open PySem PySem.W PySem.Calls PyProof.Rows in
set_option maxRecDepth 100000 in
set_option maxHeartbeats 0 in
theorem PySem.Challenge.cw_widerkeys_k13_what_is_a_step_holds : PySem.Challenge.rw_widerkeys_k13_what_is_a_step.Holds := by
  w_on; o_law
  refine HandSHeadRun.head_any (r := OpenLaw.row PySem.Challenge.rw_widerkeys_k13_what_is_a_step) (q := view (OpenLaw.row PySem.Challenge.rw_widerkeys_k13_what_is_a_step).prog [78]) (H := Zd.hk) (ob := Zd.ob) (M := 7000) (loose := Zd.los) (d := HandSHeadRun.topDef (OpenLaw.row PySem.Challenge.rw_widerkeys_k13_what_is_a_step).prog 78) (kwd := []) Zd.ob_eq
    (by kernel_rfl) (fun s => by kernel_rfl) Zd.run (by kernel_rfl) (by kernel_rfl) (by kernel_rfl) (by rfl) (by first | assumption | decide +kernel) (by decide +kernel) ⟨rfl, rfl, rfl, rfl, rfl, by decide +kernel⟩ ?hw ?hc
  case hw => w_witness2
  case hc =>
    refine Zd.walkGE (l := PySem.Challenge.rw_widerkeys_k13_what_is_a_step) (n := 63) (sp := Zd.spLaw) (x := "_law_script") (k := 11) rfl (by decide) (by kernel_rfl) ⟨rfl, by decide, by decide⟩ ?F (fun K H a ns hl hS => ⟨a, ns, rfl, hS, hl, fun _ => rfl⟩)
    intro w mg fa h Y G hmg0
    obtain ⟨K, KX, c⟩ := Y
    have hmg : mg ("law" : PySem.Str) = some (.ref fa) := by
      have e : (HandSHeadRun.topDef (OpenLaw.row PySem.Challenge.rw_widerkeys_k13_what_is_a_step).prog 78).name = ("law" : PySem.Str) := by kernel_rfl
      rw [← e]
      exact hmg0
    obtain ⟨fd, hb, hF⟩ := Zd.facts (l := PySem.Challenge.rw_widerkeys_k13_what_is_a_step) (w := w) KX G hmg c
    exact ⟨K, fd, KX, hb, hF⟩
