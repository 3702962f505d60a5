import PyProof.Rows.All
import Wide.All
import OpenK.AllK
import Wide.FinOn
import PySem.Challenge.RW_metbefore_k67_fractions_told
import HandS.ForMost
import HandS.IsInst
import HandS.Gcd
import HandS.Wide
import HandS.TupAny
import HandS.TupMul
import HandS.Flow
import HandS.Style
import PyProof.ReprRoads
import KE.KRevSl
set_option Elab.async false
set_option linter.all false
set_option maxRecDepth 100000
set_option maxHeartbeats 4000000
/-! My own small layer over HandS: a def that may count on no repr running around it (guards), repr of data, moves of the heap that leave one object aside. -/
namespace Gl
open PySem PySem.Spec PyProof.Rows L2

/-! ### data without dicts -/
mutual
theorem noDict {K : PySem.W.Frag} {H : Hp} : ∀ (d : PyData) (v : V), Dp K H v d → d.hasDict = false
  | .none, _, _ => by simp only [PyData.hasDict]
  | .bool _, _, _ => by simp only [PyData.hasDict]
  | .int _, _, _ => by simp only [PyData.hasDict]
  | .str _, _, _ => by simp only [PyData.hasDict]
  | .list ds, v, h => by
    cases h with
    | lst _ ha => simp only [PyData.hasDict]; exact noDictAll ds _ ha
  | .tuple ds, v, h => by
    cases h with
    | tup _ ha => simp only [PyData.hasDict]; exact noDictAll ds _ ha
  | .dict _, _, h => nomatch h
theorem noDictAll {K : PySem.W.Frag} {H : Hp} : ∀ (ds : List PyData) (vs : List V), DpAll K H vs ds → PyData.hasDictAll ds = false
  | [], _, _ => by simp only [PyData.hasDictAll]
  | d :: ds, _, h => by
    cases h with
    | cons a b => simp only [PyData.hasDictAll, noDict d _ a, noDictAll ds _ b, Bool.or_self]
end

/-! ### repr -/
def rShow (K : PySem.W.Frag) : List V → Hp → VK → Prop := fun xs H Q => ∃ v d, xs = [v] ∧ Dp K H v d ∧ PyData.showable d = true ∧ d.depth ≤ 40 ∧ d.shown.length ≤ sizeLine ∧ Q (.str d.shown) H
theorem call_show {X : Cx} (hg : X.A.guards = some []) (hu : X.A.units + 64 < cLine) : CallR X (.builtin "repr") (rShow X.K) := by
  intro pins s σ H xs us Q I r h
  obtain ⟨v, d, rfl, hd, sh, dp, sz, q⟩ := h
  obtain ⟨u, rfl, ru⟩ := vals1 r
  have nd := noDict d v hd
  obtain ⟨as, rr⟩ := Dp.reads I d v u hd ru
  cases u with
  | ref a =>
    exact repr_of_reads' rr sh (fun z => by rw [nd] at z; cases z) hg (by omega) (fun _ _ e => e) (fun h' t tk hk => ⟨.str d.shown, H, I.kept hk, ⟨_, rfl⟩, q⟩) sz
  | none => cases rr; exact PySem.P.repr_of_none ⟨.str _, H, I.tok _, ⟨_, rfl⟩, (by simpa only [PyData.shown] using q)⟩
  | bool b => cases rr; exact PySem.P.repr_of_bool ⟨.str _, H, I.tok _, ⟨_, rfl⟩, (by simpa only [PyData.shown] using q)⟩
  | int i t => cases rr; exact PySem.P.repr_of_int (by simpa [PyData.showable] using sh) ⟨.str _, H, I.tok _, ⟨_, rfl⟩, (by simpa only [PyData.shown] using q)⟩
  | str x t => cases rr; exact PySem.P.repr_of_str ⟨.str _, H, I.tok _, ⟨_, rfl⟩, (by simpa only [PyData.shown] using q)⟩ (by simpa only [PyData.shown] using sz)
  | _ => cases rr

/-! ### a def within which no repr is running -/
structure OkG (P : Program) (w : World) (K : PySem.W.Frag) (mg : Str → Option Value) (base : Heap) (CX : CXT) (k : Nat) (f : Addr) (fd : FuncData) (ps : List Str) (sp : Sp) : Prop where
  len : ∀ vs H Q E, sp vs H Q E → vs.length = ps.length
  run : ∀ (A : Around) (outer : List Env) (s : Shared) (H : Hp) (args : Args) (us : List Value) (vs : List V) (Q : VK) (E : XK), A.guards = some [] → Room k A → Env0 P w K mg base A outer s H → BindsTo s fd args (ps.zip us) → Vals vs us → sp vs H Q E →
    codeAny (model P w) A (.call (.ref f) args) (CR CX outer P w H s Q E) s
section
variable {P : Program} {w : World} {K : PySem.W.Frag} {mg : Str → Option Value} {base : Heap} {CX : CXT}
theorem OkG.of {k : Nat} {f : Addr} {fd : FuncData} {ps : List Str} {sp : Sp} (F : FnOk P w K mg base CX k f fd ps sp) : OkG P w K mg base CX k f fd ps sp :=
  ⟨F.len, fun A o s H ar us vs Q E _ hr e b r z => F.run A o s H ar us vs Q E hr e b r z⟩
/-- a def by its body, where the guards are known to be none -/
theorem okG {x qual : Str} {st : Stmt} {f : Addr} {fd : FuncData} {N ps : List Str} {k : Nat} {sp : Sp} (F : Fun K x qual st f fd) (S : FnScope N ps (defScope st)) (hlen : ∀ vs H Q E, sp vs H Q E → vs.length = ps.length)
    (hb : ∀ (cdv : Value) (A : Around) (outer : List Env) (s : Shared) (H : Hp) (vs : List V) (Q : VK) (E : XK), A.guards = some [] → Room k (A.deeper (envOfC qual (defScope st) s.heap.objs.size f cdv)) → sp vs H Q E →
      ∃ t, PSs (cxOf CX0 P w K mg base N qual (defScope st) f cdv A outer s H E).nox (defBody st) t ∧ t { nx := fun _ H' => Q .non H', rt := Q } (start N vs) H) : OkG P w K mg base CX0 (k + 1) f fd ps sp := by
  obtain ⟨oc, od, kV, doc, pm, an, cdv, ct, osl, rfl, lk, hcd⟩ := F.ex
  constructor
  · exact hlen
  · intro A outer s H args us vs Q E gd room env0 bt rv hsp
    obtain ⟨t, ht, ready⟩ := hb cdv A outer s H vs Q E gd (room.deeper _) hsp
    have inHeap : K.In s.heap := env0.mod.kin.keeps fun b o e => And.left (env0.bs b o e)
    have noLim : s.heap.NoLimit := env0.mod.nolimit.keeps fun b o e => And.left (env0.bs b o e)
    have kinds : ∀ y ∈ ps.zip us, (defScope st).names.lookup y.1 = some .local ∨ ((defScope st).names.lookup y.1 = some .cell ∧ ((cellsFrom (s.heap.objs.size + 1) (defScope st).names []).lookup y.1).isSome = true) := by
      intro y hy
      cases S.par y.1 (List.of_mem_zip (a := y.1) (b := y.2) hy).1 with
      | inl q => exact Or.inl q
      | inr q => exact Or.inr (And.intro q (PySem.W.cellsFrom_some _ _ _ (Or.inl q)))
    apply codeAny_call_function room.depth (inHeap _ _ lk) rfl S.co S.gen rfl (PySem.W.codeRec_of inHeap hcd)
    apply bt
    apply wpAny_newFunctionEnv_cells S.kind kinds
    rintro env rfl s1 x
    apply And.intro (noLim.keeps x.toInCall.keep) (codeAny_func _)
    have inv := inv_start (CX := CX0) (P := P) (w := w) (mg := mg) (base := base) (E := E) S room.hd env0 (hlen _ _ _ _ hsp) rv x
    apply wpAny_mono (ht.nox.run [] s1 (start N vs) H _ inv ready) _ (fun _ _ z => z)
    intro fl s' out
    match fl, out with
    | .ret u, ⟨v, σ', H', J, r, q⟩ => exact ⟨v, H', J.os, J.bare, J.base, J.hok, r, q⟩
    | .next, ⟨σ', H', J, q⟩ => exact ⟨V.non, H', J.os, J.bare, J.base, J.hok, rfl, q⟩
    | .brk, ⟨_, _, _, q⟩ => exact q.elim
    | .cont, ⟨_, _, _, q⟩ => exact q.elim
/-- the law's call at the caller: only the script is tracked -/
theorem callG {mb : Str → Option Value} {k : Nat} {fa a : Addr} {fd : FuncData} {x : Str} {sp : Sp} {s₁ : Shared} {vs : List Value} {ns : List Int} (KX : K.In s₁.heap) (hns : s₁.heap.Ns mainGlobals mg)
    (hb : s₁.heap.Ns builtinsNs mb) (hbb : ∀ z : Str, z ≠ "__name__" → mb z = bootBuiltins z)
    (hlim : s₁.heap.NoLimit) (hg : s₁.gens = #[]) (ha : s₁.heap.get? a = some { cls := .type "list", data := .seq vs.toArray })
    (hi : IntsAre vs ns) (hl : ns.length ≤ sizeLine) (hr : Room k callerA) (F : ∀ h : Heap, K.In h → h.Ns mainGlobals mg → OkG P w K mg h CX0 k fa fd [x] sp)
    (hbind : ∀ (s : Shared) (u : Value), BindsTo s fd ⟨[u], []⟩ [(x, u)]) (hsp : ∀ H : Hp, Only H → SqL K H a (ns.map V.int) → sp [.ref a] H (fun v _ => v = .bl true) (fun _ _ _ => False)) :
    codeAny (model P w) callerA (.call (.ref fa) ⟨[.ref a], []⟩)
      (fun r s' => r = .ok (.ret (.bool true)) ∧ OldK s₁.heap s'.heap ∧ s'.os = s₁.os ∧ AllBare s'.gens) s₁ := by
  have rv := vals_ints hi
  -- what is tracked: the script, unless it is one of the module's own objects
  let T : HO := .frz { cls := .type "list", data := .seq vs.toArray } (.lst (ns.map V.int))
  let H : Hp := fun b => if b = a ∧ K.lookup a = none then some T else none
  have atH : ∀ {b u}, H b = some u → b = a ∧ K.lookup a = none ∧ u = T := by
    intro b u z
    by_cases c : b = a ∧ K.lookup a = none
    · have z' : (if b = a ∧ K.lookup a = none then some T else none) = some u := z
      rw [if_pos c] at z'
      exact ⟨c.1, c.2, (Option.some.inj z').symm⟩
    · have z' : (if b = a ∧ K.lookup a = none then some T else none) = some u := z
      rw [if_neg c] at z'
      cases z'
  have only : Only H := fun b => by
    cases z : H b with
    | none => exact Or.inl rfl
    | some u => exact Or.inr ⟨_, _, congrArg some (atH z).2.2⟩
  have okH : HOk P w H s₁.heap := fun b u z => by
    obtain ⟨rfl, _, rfl⟩ := atH z
    exact ⟨ha, by rw [List.length_map]; exact hl, vs, _, rv, ha⟩
  have seq : SqL K H a (ns.map V.int) := by
    cases c : K.lookup a with
    | none => exact Or.inl (Or.inr ⟨_, if_pos ⟨rfl, c⟩⟩)
    | some o =>
      have e := KX a o c
      rw [ha] at e
      cases e
      exact Or.inr ⟨_, vs.toArray, _, c, rfl, rfl, rfl, (by rw [List.size_toArray, hi.length]; exact hl), (by simpa using rv)⟩
  have base' : ∀ {b : Addr} {o : Obj}, s₁.heap.get? b = some o → (b = a → K.lookup a ≠ none) → (hidT s₁.heap H).get? b = some o := fun {b o} e n => hidT_get e (by
    cases z : H b with
    | none => rfl
    | some u => exact absurd (atH z).2.1 (n (atH z).1))
  have dictNs : ∀ {b : Addr} {m : Str → Option Value}, s₁.heap.Ns b m → (hidT s₁.heap H).Ns b m := by
    rintro b m ⟨o, es, ep, e, d, r⟩
    refine ⟨o, es, ep, base' e (fun z => ?_), d, r⟩
    rw [z, ha] at e
    cases e
    cases d
  have Kb : K.In (hidT s₁.heap H) := fun b o e => base' (KX b o e) fun z => by rw [← z, e]; exact fun q => nomatch q
  have M : Mod K mg (hidT s₁.heap H) := { kin := Kb, glob := dictNs hns, blt := ⟨mb, dictNs hb, hbb⟩, nolimit := (match hlim with | ⟨mc, h1, h2⟩ => ⟨mc, dictNs h1, h2⟩) }
  have E : Env0 P w K mg (hidT s₁.heap H) callerA [] s₁ H := { frames := rfl, mod := M, bs := fun b o e => of_hidT e, bsz := Nat.le_of_eq (hidT_size _ _), funs := trivial, frf := fun b z => (List.not_mem_nil z).elim, hok := okH, bare := .of_eq hg }
  apply codeAny_mono ((F _ Kb (dictNs hns)).run callerA [] s₁ H ⟨[.ref a], []⟩ [.ref a] [.ref a] _ _ rfl hr E (hbind s₁ (.ref a)) (.cons rfl .nil) (hsp H only seq))
  intro r s' out
  match r, out with
  | .error _, z => exact z.elim
  | .ok (.ret u), ⟨v, H', os, bare, un, hok', rr, q⟩ =>
    obtain rfl : v = .bl true := q
    obtain rfl : u = Value.bool true := rr
    refine ⟨rfl, OldK.of_keep fun b o e => ?_, os, bare⟩
    cases z : H b with
    | none => exact un.keep b o e z (fun m => (List.not_mem_nil m).elim) List.not_mem_nil
    | some u =>
      obtain ⟨rfl, _, rfl⟩ := atH z
      rw [ha] at e
      cases e
      exact (hok' b _ (un.frzs b _ _ z)).1
end
/-- the goal behind k_head, from the law's promise -/
theorem walkG {l : PySem.W.OpenLaw} {n k : Nat} {q : Program} {loose : List Str} {XP : (Str → Option Value) → Heap → Prop} {YP : World → Heap → Prop} {d : DefRec} {K : Params → PySem.W.Frag} {sp : World → Sp} {x : Str}
    (hn : l.most = some n) (hn2 : n ≤ sizeLine)
    (hdf : d.params.defaults = []) (hr : Room k callerA) (hY : ∀ (w : World) (h : Heap), YP w h → (K w.params).In h)
    (F : ∀ (w : World) (mg : Str → Option Value) (fa : Addr) (g : Heap), (K w.params).In g → g.Ns mainGlobals mg → mg d.name = some (.ref fa) → ∃ fd : FuncData,
      (∀ (s : Shared) (u : Value), BindsTo s fd ⟨[u], []⟩ [(x, u)]) ∧ ∀ b : Heap, (K w.params).In b → b.Ns mainGlobals mg → OkG l.prog w (K w.params) mg b CX0 k fa fd [x] (sp w))
    (hsp : ∀ (w : World) (H : Hp) (a : Addr) (ns : List Int), ns.length ≤ n → Only H → SqL (K w.params) H a (ns.map V.int) → sp w [.ref a] H (fun v _ => v = .bl true) fun _ _ _ => False) : PySem.W.WalkO q loose XP YP l.row.toRowW d []
      (fun f vs => PySem.call f vs) := by
  apply Att.attach_call hn hdf
  intro w s₀ s₁ mg mb fa o pm cd doc a vs ns G Y ho hd hcd hmg hobj hints hlen hg
  obtain ⟨fd, bd, ok⟩ := F w mg fa _ (hY w _ Y) G.T.g hmg
  exact callG (hY w _ Y) G.T.g G.T.b G.T.builtins G.T.nolimit hg hobj hints (Nat.le_trans hlen hn2) hr ok bd fun H h1 h2 => hsp w H a ns hlen h1 h2
end Gl

set_option maxHeartbeats 4000000
namespace Gl
open PySem PySem.Spec PyProof.Rows L2

/-! ### the heap moves, one object aside -/
def Mv (f : Addr) (H H' : Hp) : Prop := ∀ b o, b ≠ f → H b = some o → H' b = some o
theorem Mv.refl (f : Addr) (H : Hp) : Mv f H H := fun _ _ _ h => h
theorem Mv.trans {f : Addr} {H H1 H2 : Hp} (a : Mv f H H1) (b : Mv f H1 H2) : Mv f H H2 := fun c o n h => b c o n (a c o n h)
theorem Mv.same {f : Addr} {H H1 : Hp} (a : Same H H1) : Mv f H H1 := fun c o _ h => a c o h
theorem Mv.at {f : Addr} {H : Hp} (o : HO) : Mv f H (upd H f o) := fun c u n h => by rw [upd_ne n]; exact h
theorem Mv.new {f p : Addr} {H : Hp} (h : H p = none) (o : HO) : Mv f H (upd H p o) := fun c u _ e => by rw [upd_ne (ne_of_none e h)]; exact e
theorem same_new {H : Hp} {p : Addr} (h : H p = none) (o : HO) : Same H (upd H p o) := fun c u e => by rw [upd_ne (ne_of_none e h)]; exact e
def off (f : Addr) (H : Hp) : Hp := fun b => if b = f then none else H b
theorem off_ne {f b : Addr} {H : Hp} (n : b ≠ f) : off f H b = H b := if_neg n
theorem off_same (f : Addr) (H : Hp) : Same (off f H) H := fun b o e => by
  by_cases n : b = f
  · have e' : (if b = f then none else H b) = some o := e
    rw [if_pos n] at e'
    cases e'
  · rw [off_ne n] at e
    exact e
theorem off_get {f b : Addr} {H : Hp} {o : HO} (e : off f H b = some o) : b ≠ f ∧ H b = some o := by
  refine ⟨fun n => ?_, off_same f H b o e⟩
  have e' : (if b = f then none else H b) = some o := e
  rw [if_pos n] at e'
  cases e'
theorem Mv.off {f : Addr} {H H' : Hp} (m : Mv f H H') : Same (off f H) (off f H') := fun b o e => by
  obtain ⟨n, h⟩ := off_get e
  rw [off_ne n]
  exact m b o n h

/-! ### data and moves -/
theorem same_seqT {K : PySem.W.Frag} {H H' : Hp} {a : Addr} {xs : List V} (e : Same H H') (h : SqT K H a xs) : SqT K H' a xs := by
  rcases h with (h | ⟨o, h⟩) | h
  · exact .inl (.inl (e _ _ h))
  · exact .inl (.inr ⟨o, e _ _ h⟩)
  · exact .inr h
mutual
theorem dpSame {K : PySem.W.Frag} {H H' : Hp} (m : Same H H') : ∀ (d : PyData) (v : V), Dp K H v d → Dp K H' v d
  | .none, v, h => by cases h; exact .non
  | .bool _, v, h => by cases h; exact .bl _
  | .int _, v, h => by cases h; exact .int _
  | .str _, v, h => by cases h; exact .str _
  | .list ds, v, h => by
    cases h with
    | lst s ha => exact .lst (m.seq s) (dpSameAll m ds _ ha)
  | .tuple ds, v, h => by
    cases h with
    | tup s ha => exact .tup (same_seqT m s) (dpSameAll m ds _ ha)
  | .dict _, _, h => nomatch h
theorem dpSameAll {K : PySem.W.Frag} {H H' : Hp} (m : Same H H') : ∀ (ds : List PyData) (vs : List V), DpAll K H vs ds → DpAll K H' vs ds
  | [], _, h => by cases h; exact .nil
  | d :: ds, _, h => by
    cases h with
    | cons a b => exact .cons (dpSame m d _ a) (dpSameAll m ds _ b)
end
theorem DpAll_len {K : PySem.W.Frag} {H : Hp} : ∀ {vs : List V} {ds : List PyData}, DpAll K H vs ds → vs.length = ds.length
  | _, _, .nil => rfl
  | _, _, .cons _ b => congrArg (· + 1) (DpAll_len b)
theorem DpAll_get {K : PySem.W.Frag} {H : Hp} : ∀ {vs : List V} {ds : List PyData}, DpAll K H vs ds → ∀ {i : Nat} {v : V}, vs[i]? = some v → ∃ d, ds[i]? = some d ∧ Dp K H v d
  | _, _, .nil, i, v, h => by simp at h
  | _, _, .cons a _, 0, v, h => by
    simp at h
    subst h
    exact ⟨_, rfl, a⟩
  | _, _, .cons _ b, i + 1, v, h => by
    obtain ⟨d, h1, h2⟩ := DpAll_get b (i := i) (v := v) (by simpa using h)
    exact ⟨d, by simpa using h1, h2⟩
theorem DpAll_app {K : PySem.W.Frag} {H : Hp} : ∀ {vs : List V} {ds : List PyData} {ws : List V} {es : List PyData}, DpAll K H vs ds → DpAll K H ws es → DpAll K H (vs ++ ws) (ds ++ es)
  | _, _, _, _, .nil, h => h
  | _, _, _, _, .cons a b, h => .cons a (DpAll_app b h)
theorem DpAll_drop {K : PySem.W.Frag} {H : Hp} : ∀ {vs : List V} {ds : List PyData} (n : Nat), DpAll K H vs ds → DpAll K H (vs.drop n) (ds.drop n)
  | _, _, 0, h => h
  | _, _, _ + 1, .nil => .nil
  | _, _, n + 1, .cons _ b => DpAll_drop n b
theorem DpAll_take {K : PySem.W.Frag} {H : Hp} : ∀ {vs : List V} {ds : List PyData} (n : Nat), DpAll K H vs ds → DpAll K H (vs.take n) (ds.take n)
  | _, _, 0, h => .nil
  | _, _, _ + 1, .nil => .nil
  | _, _, n + 1, .cons a b => .cons a (DpAll_take n b)

/-! ### a datum's type -/
def tyOf : PyData → String
  | .none => "NoneType" | .bool _ => "bool" | .int _ => "int" | .str _ => "str" | .list _ => "list" | .tuple _ => "tuple" | .dict _ => "dict"
theorem dpTy {K : PySem.W.Frag} {H : Hp} : ∀ {d : PyData} {v : V}, Dp K H v d → TyX K H v (.type (tyOf d)) := by
  intro d v h
  cases h with
  | non => exact .base .non
  | bl b => exact .base (.bl b)
  | int i => exact .base (.int i)
  | str x => exact .base (.str x)
  | lst s ha =>
    rcases s with (h | ⟨o, h⟩) | ⟨o, its, n, h, hc, _⟩
    · exact .base (.lst h)
    · exact .base (.frz h)
    · exact .kList h hc
  | tup s ha =>
    rcases s with (h | ⟨o, h⟩) | ⟨o, its, n, h, hc, _⟩
    · exact .base (.tup h)
    · exact .fTuple h
    · exact .kTuple h hc
theorem isiAt {K : PySem.W.Frag} {H : Hp} {d : PyData} {v : V} {T : String} {b : Bool} {Q : VK} (h : Dp K H v d) (k : kitB (tyOf d) T = some b) (q : Q (.bl b) H) : rIsi K [v, .ty T] H Q :=
  ⟨v, .ty T, _, _, b, rfl, .ty T, dpTy h, kit_ty k, q⟩

/-! ### how long a datum's text is -/
mutual
def sz : PyData → Nat
  | .none => 4
  | .bool _ => 5
  | .int _ => 1921
  | .str x => (reprText x).length
  | .list ds => szAll ds + 4
  | .tuple ds => szAll ds + 4
  | .dict _ => 0
def szAll : List PyData → Nat
  | [] => 0
  | d :: r => sz d + 2 + szAll r
end
theorem listLen (ts : List Str) : (listText ts).length ≤ piled ts + 4 := by
  cases ts with
  | nil => decide +kernel
  | cons t r =>
    unfold listText
    rw [strLen_append]
    have e : (textFrom 0 "[" (t :: r)).length = (textFrom 1 ("[" ++ "" ++ t) r).length := rfl
    rw [e, textFrom_length_pos r 1 _ (by omega), strLen_append, strLen_append]
    have e1 : ("[" : Str).length = 1 := by decide +kernel
    have e2 : ("" : Str).length = 0 := by decide +kernel
    have e3 : ("]" : Str).length = 1 := by decide +kernel
    rw [e1, e2, e3]
    show 1 + 0 + t.length + piled r + 1 ≤ piled (t :: r) + 4
    have : piled (t :: r) = t.length + 2 + piled r := by first | rfl | (simp [piled]) | (simp [piled]; omega)
    omega
theorem tupLen (ts : List Str) : (tupleText ts).length ≤ piled ts + 4 := by
  unfold tupleText
  rw [strLen_append, strLen_append]
  have e1 : ("(" : Str).length = 1 := by decide +kernel
  have e3 : (Str.ofString (if ts.length == 1 then ",)" else ")")).length ≤ 2 := by split <;> decide +kernel
  cases ts with
  | nil =>
    have e2 : (Str.join ", " []).length = 0 := by decide +kernel
    rw [e2, e1]
    have : piled [] = 0 := rfl
    omega
  | cons t r =>
    have := join_length_add (t :: r) (by simp)
    omega
mutual
theorem shownLen : ∀ d : PyData, PyData.showable d = true → d.hasDict = false → d.shown.length ≤ sz d
  | .none, _, _ => by simp only [PyData.shown, sz]; decide +kernel
  | .bool b, _, _ => by cases b <;> simp only [PyData.shown, sz] <;> decide +kernel
  | .int i, h, _ => by
    have h' : i.natAbs.log2 < 1920 := by simpa [PyData.showable] using h
    simp only [PyData.shown, sz]
    have e := int_text_length_le (k := 1920) (by decide) h'
    have e2 : (Str.ofString (toString i)).length ≤ 1921 := by rw [PySem.ofString_length]; omega
    exact e2
  | .str x, _, _ => by simp only [PyData.shown, sz]; exact Nat.le_refl _
  | .list ds, h, n => by
    simp only [PyData.shown, sz]
    have := shownLenAll ds (by simpa [PyData.showable] using h) (by simpa [PyData.hasDict] using n)
    exact Nat.le_trans (listLen _) (by omega)
  | .tuple ds, h, n => by
    simp only [PyData.shown, sz]
    have := shownLenAll ds (by simpa [PyData.showable] using h) (by simpa [PyData.hasDict] using n)
    exact Nat.le_trans (tupLen _) (by omega)
  | .dict _, _, n => by simp [PyData.hasDict] at n
theorem shownLenAll : ∀ ds : List PyData, PyData.showableAll ds = true → PyData.hasDictAll ds = false → piled (PyData.shownAll ds) ≤ szAll ds
  | [], _, _ => by simp only [PyData.shownAll, szAll]; exact Nat.le_refl _
  | d :: ds, h, n => by
    have h' : d.showable = true ∧ PyData.showableAll ds = true := by simpa [PyData.showableAll] using h
    have n' : d.hasDict = false ∧ PyData.hasDictAll ds = false := by simpa [PyData.hasDictAll] using n
    have a := shownLen d h'.1 n'.1
    have b := shownLenAll ds h'.2 n'.2
    simp only [PyData.shownAll, szAll]
    have : piled (PyData.shown d :: PyData.shownAll ds) = (PyData.shown d).length + 2 + piled (PyData.shownAll ds) := by first | rfl | (simp [piled]) | (simp [piled]; omega)
    omega
end
/-- a datum whose repr can be told -/
structure Fine (d : PyData) : Prop where
  sh : PyData.showable d = true
  dp : d.depth ≤ 20
  sz : sz d ≤ 4000000
def rTell (K : PySem.W.Frag) : List V → Hp → VK → Prop := fun xs H Q => ∃ v d, xs = [v] ∧ Dp K H v d ∧ Fine d ∧ Q (.str d.shown) H
theorem call_tell {X : Cx} (hg : X.A.guards = some []) (hu : X.A.units + 64 < cLine) : CallR X (.builtin "repr") (rTell X.K) := by
  intro pins s σ H xs us Q I r h
  obtain ⟨v, d, rfl, hd, f, q⟩ := h
  have n := noDict d v hd
  have z := shownLen d f.sh n
  have z2 := f.sz
  have z3 := f.dp
  refine call_show hg hu pins s σ H [v] us Q I r ⟨v, d, rfl, hd, f.sh, by omega, ?_, q⟩
  rw [sizeLine_eq]
  omega
theorem Fine.int {i : Int} {n : Nat} (h : i.natAbs < 2 ^ n) (h0 : 0 < n) (h2 : n ≤ 1920) : Fine (.int i) :=
  ⟨by simp only [PyData.showable, decide_eq_true_eq]; exact Nat.lt_of_lt_of_le (PySem.Flt.log2_lt_of h0 h) h2, by simp only [PyData.depth]; omega, by simp only [Gl.sz]; omega⟩
end Gl
namespace Gl
open PySem PySem.Spec PyProof.Rows L2
/-! ### new data beside the object at f -/
def Fo (f : Addr) (H : Hp) : Prop := ∃ o, H f = some o
theorem Fo.same {f : Addr} {H H' : Hp} (F : Fo f H) (m : Same H H') : Fo f H' := let ⟨o, h⟩ := F; ⟨o, m _ _ h⟩
theorem Fo.ne {f p : Addr} {H : Hp} (F : Fo f H) (h : H p = none) : p ≠ f := fun e => by
  obtain ⟨o, z⟩ := F
  rw [e, z] at h
  cases h
theorem off_mono {f : Addr} {H H' : Hp} (m : Same H H') : Same (off f H) (off f H') := fun b o e => by
  obtain ⟨n, h⟩ := off_get e
  rw [off_ne n]
  exact m b o h
theorem off_new {f p : Addr} {H : Hp} (F : Fo f H) (h : H p = none) (o : HO) : off f (upd H p o) p = some o := by rw [off_ne (F.ne h)]; exact upd_same
theorem newTup {K : PySem.W.Frag} {f p : Addr} {H : Hp} {vs : List V} {ds : List PyData} (F : Fo f H) (h : H p = none) (a : DpAll K (off f H) vs ds) : Dp K (off f (upd H p (.tup vs))) (.ref p) (.tuple ds) :=
  .tup (.inl (.inl (off_new F h _))) (dpSameAll (off_mono (same_new h _)) _ _ a)
theorem newLst {K : PySem.W.Frag} {f p : Addr} {H : Hp} {vs : List V} {ds : List PyData} (F : Fo f H) (h : H p = none) (a : DpAll K (off f H) vs ds) : Dp K (off f (upd H p (.lst vs))) (.ref p) (.list ds) :=
  .lst (.inl (.inl (off_new F h _))) (dpSameAll (off_mono (same_new h _)) _ _ a)
theorem dpTup {K : PySem.W.Frag} {H : Hp} {v : V} {ds : List PyData} (h : Dp K H v (.tuple ds)) : ∃ a xs, v = .ref a ∧ SqT K H a xs ∧ DpAll K H xs ds := by
  cases h with
  | tup s a => exact ⟨_, _, rfl, s, a⟩
theorem dpLst {K : PySem.W.Frag} {H : Hp} {v : V} {ds : List PyData} (h : Dp K H v (.list ds)) : ∃ a xs, v = .ref a ∧ SqL K H a xs ∧ DpAll K H xs ds := by
  cases h with
  | lst s a => exact ⟨_, _, rfl, s, a⟩
theorem offT {K : PySem.W.Frag} {f a : Addr} {H : Hp} {xs : List V} (h : SqT K (off f H) a xs) : SqT K H a xs := same_seqT (off_same f H) h
theorem offL {K : PySem.W.Frag} {f a : Addr} {H : Hp} {xs : List V} (h : SqL K (off f H) a xs) : SqL K H a xs := (off_same f H).seq h
theorem offD {K : PySem.W.Frag} {f : Addr} {H : Hp} {v : V} {d : PyData} (h : Dp K (off f H) v d) : Dp K H v d := dpSame (off_same f H) d v h
theorem dCat {K : PySem.W.Frag} {f : Addr} {H : Hp} {x y : V} {ds es : List PyData} {Q : VK} (F : Fo f H) (hx : Dp K (off f H) x (.tuple ds)) (hy : Dp K (off f H) y (.tuple es)) (z : ds.length + es.length ≤ 100000)
    (q : ∀ v H', Same H H' → Dp K (off f H') v (.tuple (ds ++ es)) → Q v H') : rCatA K x y H Q := by
  obtain ⟨a, xs, rfl, sa, da⟩ := dpTup hx
  obtain ⟨b, ys, rfl, sb, db⟩ := dpTup hy
  have la := DpAll_len da
  have lb := DpAll_len db
  refine ⟨a, b, xs, ys, rfl, rfl, offT sa, offT sb, by rw [sizeLine_eq]; omega, fun e => ?_, fun _ e => ?_, fun _ _ p hp => ?_⟩
  · subst e
    cases da
    exact q _ _ (Same.refl _) hy
  · subst e
    cases db
    rw [List.append_nil] at q
    exact q _ _ (Same.refl _) hx
  · exact q _ _ (same_new hp _) (newTup F hp (DpAll_app da db))
def cutD {α : Type} (xs : List α) (lo hi : Option Int) : List α := (xs.drop (HT.sIx xs.length 0 lo)).take (HT.sIx xs.length xs.length hi - HT.sIx xs.length 0 lo)
theorem cutDp {K : PySem.W.Frag} {H : Hp} {vs : List V} {ds : List PyData} (lo hi : Option Int) (h : DpAll K H vs ds) : DpAll K H (cutV vs lo hi) (cutD ds lo hi) := by
  unfold cutV cutD
  rw [DpAll_len h]
  exact DpAll_take _ (DpAll_drop _ h)
theorem cut_whole {α : Type} {xs : List α} {lo hi : Option Int} (h : HT.sIx xs.length 0 lo = 0 ∧ HT.sIx xs.length xs.length hi = xs.length) : cutD xs lo hi = xs := by
  unfold cutD
  rw [h.1, h.2, List.drop_zero, Nat.sub_zero, List.take_length]
theorem dSlice {K : PySem.W.Frag} {f : Addr} {H : Hp} {x : V} {ds : List PyData} {lo hi : Option Int} {Q : VK} (F : Fo f H) (hx : Dp K (off f H) x (.tuple ds))
    (q : ∀ v H', Same H H' → Dp K (off f H') v (.tuple (cutD ds lo hi)) → Q v H') : rSlA K x lo hi H Q := by
  obtain ⟨a, xs, rfl, sa, da⟩ := dpTup hx
  refine ⟨a, xs, rfl, offT sa, fun e => ?_, fun _ p hp => ?_⟩
  · rw [DpAll_len da] at e
    refine q _ _ (Same.refl _) ?_
    rw [cut_whole e]
    exact hx
  · exact q _ _ (same_new hp _) (newTup F hp (cutDp lo hi da))
theorem cut_to {α : Type} (xs : List α) (n : Nat) : cutD xs none (some (n : Int)) = xs.take n := by
  unfold cutD
  rw [HT.sIx_none, HT.sIx_nat, List.drop_zero, Nat.sub_zero]
  rcases Nat.le_total n xs.length with h | h
  · rw [Nat.min_eq_left h]
  · rw [Nat.min_eq_right h, List.take_length, List.take_of_length_le h]
theorem cut_from {α : Type} (xs : List α) (n : Nat) : cutD xs (some (n : Int)) none = xs.drop n := by
  unfold cutD
  rw [HT.sIx_none, HT.sIx_nat]
  rcases Nat.le_total n xs.length with h | h
  · rw [Nat.min_eq_left h]
    exact List.take_of_length_le (by rw [List.length_drop]; omega)
  · rw [Nat.min_eq_right h, Nat.sub_self, List.take_zero, List.drop_eq_nil_of_le h]
theorem cut_mid {α : Type} (xs : List α) (n m : Nat) : cutD xs (some (n : Int)) (some (m : Int)) = (xs.drop n).take (m - n) := by
  unfold cutD
  rw [HT.sIx_nat, HT.sIx_nat]
  rcases Nat.le_total n xs.length with h | h
  · rw [Nat.min_eq_left h]
    rcases Nat.le_total m xs.length with h2 | h2
    · rw [Nat.min_eq_left h2]
    · rw [Nat.min_eq_right h2, List.take_of_length_le (by rw [List.length_drop]; omega), List.take_of_length_le (by rw [List.length_drop]; omega)]
  · rw [Nat.min_eq_right h, List.drop_eq_nil_of_le h, List.drop_eq_nil_of_le (Nat.le_refl _), List.take_nil, List.take_nil]
theorem dIdx {K : PySem.W.Frag} {H : Hp} {x : V} {ds : List PyData} {n : Nat} {d : PyData} {Q : VK} (hx : Dp K H x (.tuple ds)) (hd : ds[n]? = some d) (q : ∀ v, Dp K H v d → Q v H) : rIxT K x (.int (n : Int)) H Q := by
  obtain ⟨a, xs, rfl, sa, da⟩ := dpTup hx
  have l := DpAll_len da
  have hn : n < xs.length := by rw [l]; exact (List.getElem?_eq_some_iff.mp hd).1
  obtain ⟨d', h1, h2⟩ := DpAll_get da (List.getElem?_eq_getElem hn)
  rw [hd] at h1
  cases h1
  exact ⟨a, xs, _, _, rfl, rfl, sa, atI_nat (List.getElem?_eq_getElem hn), q _ h2⟩
theorem dLen {X : Cx} {H : Hp} {x : V} {ds : List PyData} {Q : VK} (hx : Dp X.K H x (.tuple ds)) (q : Q (.int ds.length) H) : (∃ p ys, [x] = [V.ref p] ∧ (SqL X.K H p ys ∨ SqT X.K H p ys) ∧ Q (.int ys.length) H) := by
  obtain ⟨a, xs, rfl, sa, da⟩ := dpTup hx
  exact ⟨a, xs, rfl, .inr sa, by rw [DpAll_len da]; exact q⟩
end Gl
namespace Gl
open L2
theorem kt_NoneType_int : kitB "NoneType" "int" = some false := by decide +kernel
theorem kt_NoneType_bool : kitB "NoneType" "bool" = some false := by decide +kernel
theorem kt_NoneType_str : kitB "NoneType" "str" = some false := by decide +kernel
theorem kt_NoneType_tuple : kitB "NoneType" "tuple" = some false := by decide +kernel
theorem kt_NoneType_list : kitB "NoneType" "list" = some false := by decide +kernel
theorem kt_bool_int : kitB "bool" "int" = some true := by decide +kernel
theorem kt_bool_bool : kitB "bool" "bool" = some true := by decide +kernel
theorem kt_bool_str : kitB "bool" "str" = some false := by decide +kernel
theorem kt_bool_tuple : kitB "bool" "tuple" = some false := by decide +kernel
theorem kt_bool_list : kitB "bool" "list" = some false := by decide +kernel
theorem kt_int_int : kitB "int" "int" = some true := by decide +kernel
theorem kt_int_bool : kitB "int" "bool" = some false := by decide +kernel
theorem kt_int_str : kitB "int" "str" = some false := by decide +kernel
theorem kt_int_tuple : kitB "int" "tuple" = some false := by decide +kernel
theorem kt_int_list : kitB "int" "list" = some false := by decide +kernel
theorem kt_str_int : kitB "str" "int" = some false := by decide +kernel
theorem kt_str_bool : kitB "str" "bool" = some false := by decide +kernel
theorem kt_str_str : kitB "str" "str" = some true := by decide +kernel
theorem kt_str_tuple : kitB "str" "tuple" = some false := by decide +kernel
theorem kt_str_list : kitB "str" "list" = some false := by decide +kernel
theorem kt_list_int : kitB "list" "int" = some false := by decide +kernel
theorem kt_list_bool : kitB "list" "bool" = some false := by decide +kernel
theorem kt_list_str : kitB "list" "str" = some false := by decide +kernel
theorem kt_list_tuple : kitB "list" "tuple" = some false := by decide +kernel
theorem kt_list_list : kitB "list" "list" = some true := by decide +kernel
theorem kt_tuple_int : kitB "tuple" "int" = some false := by decide +kernel
theorem kt_tuple_bool : kitB "tuple" "bool" = some false := by decide +kernel
theorem kt_tuple_str : kitB "tuple" "str" = some false := by decide +kernel
theorem kt_tuple_tuple : kitB "tuple" "tuple" = some true := by decide +kernel
theorem kt_tuple_list : kitB "tuple" "list" = some false := by decide +kernel
end Gl

set_option maxHeartbeats 4000000
/-! t[::-1] of a tuple -/
namespace Gl
open PySem PySem.Spec PyProof.Rows L2 HT
section
variable {prog : Program} {w : World} {A : Around} {E : Value → Shared → Prop} {s : Shared}
theorem fm_congr {α β : Type} {f g : α → Option β} : ∀ {l : List α}, (∀ a ∈ l, f a = g a) → l.filterMap f = l.filterMap g
  | [], _ => rfl
  | a :: r, h => by
    rw [List.filterMap_cons, List.filterMap_cons, h a List.mem_cons_self, fm_congr fun b hb => h b (List.mem_cons_of_mem _ hb)]
theorem backPick (xs : Array Value) : ((List.range xs.size).filterMap fun (m : Nat) => xs[(((xs.size : Int) - 1) + (m : Int) * (-1)).toNat]?).toArray = xs.toList.reverse.toArray := by
  have e := PySem.W.krv_pick xs
  unfold slicePick at e
  rw [PySem.W.krv_bounds] at e
  simp only at e
  rw [PySem.W.krv_sliceRange, List.filterMap_map] at e
  rw [← e]
  congr 1
  apply fm_congr
  intro m hm
  have : m < xs.size := List.mem_range.mp hm
  have e2 : (((xs.size : Int) - 1) + (m : Int) * (-1)).toNat = xs.size - 1 - m := by omega
  rw [e2]
  rfl
theorem backAdjust (n : Nat) : Builtin.Slice.sliceAdjust none none (-1) (n : Int) = ((n : Int) - 1, -1) := by
  unfold Builtin.Slice.sliceAdjust
  simp
theorem backPlaces (n : Nat) : Builtin.Slice.slicePlaces ((n : Int) - 1) (-1) (-1) = n := by
  unfold Builtin.Slice.slicePlaces
  rw [if_neg (by omega)]
  by_cases h : 0 < n
  · rw [if_pos (by omega), show -(-1 : Int) = 1 from rfl, Int.ediv_one]
    omega
  · rw [if_neg (by omega)]
    omega
theorem getItem_tuple_back {t sl : Addr} {items : Array Value} {vs : Value} {Q : Value → Shared → Prop} (ht : IsTup s.heap t items) (hs : s.heap.IsSliceOf sl .none .none vs) (ps : IsPart vs (some (-1))) (big : items.size ≤ sizeLine)
    (h : Q (.ref s.heap.objs.size) { s with heap := s.heap.push { cls := .type "tuple", data := .seq items.toList.reverse.toArray } }) : wpAny (model prog w) A (getItem (.ref t) (.ref sl)) Q E s := by
  have ok : sizeOk (.seq items.toList.reverse.toArray) := by
    show items.toList.reverse.toArray.size ≤ sizeLine
    rw [List.size_toArray, List.length_reverse, Array.length_toList]; exact big
  obtain ⟨os, hos, hcs, hds⟩ := id hs
  have isSlice : s.TypeIs (.ref sl) "slice" := ⟨os, hos, hcs⟩
  unfold getItem
  try with_reducible apply wpAny_holding
  first | apply wpAny_bind (wpAny_pure _) | skip
  apply wpAny_bind (wpAny_sequenceKey ht.typeIs (by decide) _)
  apply wpAny_bind (wpAny_callSpecial?_slot (name := Str.ofString "__getitem__") ht.typeIs PyProof.Rows.slot_tuple_getitem (wpAny_call_entry PyProof.Rows.slot_tuple_getitem ht.typeIs PyProof.Rows.entry_tuple_getitem _ (PyProof.Rows.args_tuple_getitem _ _)))
  show wpAny _ _ (Builtin.Tuple.tupleItemsOf (.ref t) >>= _) _ _ s
  apply wpAny_bind (tupleItemsOf_ ht _)
  apply wpAny_bind (wpAny_typeOf isSlice _)
  rw [if_pos (by decide)]
  apply wpAny_bind
  unfold Builtin.Slice.sliceApplied Builtin.Slice.sliceFields
  refine wpAny_bind (wpAny_bind (wpAny_field hos hds (x := .none) rfl (wpAny_bind (wpAny_field hos hds (x := .none) rfl (wpAny_bind (wpAny_field hos hds (x := vs) rfl (wpAny_pure ?_)))))))
  apply wpAny_bind (slicePart_ ps _)
  show wpAny _ _ (if ((-1 : Int) == 0) = true then _ else _) _ _ s
  rw [if_neg (by decide)]
  refine wpAny_bind (slicePart_none (wpAny_bind (slicePart_none (wpAny_bind (wpAny_pure ?_)))))
  show wpAny _ _ (match Builtin.Slice.sliceAdjust none none (-1) (items.size : Int) with | (lo, hi) => pure (lo, (-1 : Int), Builtin.Slice.slicePlaces lo hi (-1))) _ _ s
  rw [backAdjust]
  show wpAny _ _ (pure (((items.size : Int) - 1), (-1 : Int), Builtin.Slice.slicePlaces ((items.size : Int) - 1) (-1) (-1))) _ _ s
  rw [backPlaces]
  apply wpAny_pure
  have not : ¬ (((items.size : Int) - 1) == 0 && (-1 : Int) == 1 && items.size == items.size) = true := by
    rw [show ((-1 : Int) == 1) = false from rfl, Bool.and_false, Bool.false_and]
    exact Bool.false_ne_true
  show wpAny _ _ (if (((items.size : Int) - 1) == 0 && (-1 : Int) == 1 && items.size == items.size) = true then _ else _) _ _ s
  rw [if_neg not, backPick]
  first
    | exact wpAny_bind (m := Builtin.Tuple.tupleExact _) (wpAny_newObj_type (wpAny_pure ⟨_, rfl, wpAny_pure h⟩) ok)
    | exact wpAny_bind (m := Builtin.Tuple.tupleExact _) (wpAny_newObj_type (wpAny_bind (wpAny_pure (wpAny_pure ⟨_, rfl, wpAny_pure h⟩))) ok)
    | exact wpAny_bind (wpAny_bind (m := Builtin.Tuple.tupleExact _) (wpAny_newObj_type (wpAny_pure (wpAny_pure ⟨_, rfl, wpAny_pure h⟩)) ok))
    | exact wpAny_bind (wpAny_bind (m := Builtin.Tuple.tupleExact _) (wpAny_newObj_type (wpAny_pure ⟨_, rfl, wpAny_pure h⟩) ok))
end
section
variable {X : Cx}
def tRevT (K : PySem.W.Frag) (te : TE) : TE := fun σ H Q => te σ H fun x H1 => ∃ a xs, x = .ref a ∧ SqT K H1 a xs ∧ ∀ p, H1 p = none → Q (.ref p) (upd H1 p (.tup xs.reverse))
theorem pe_revT {e : Expr} {te : TE} {k : Nat} {p1 p2 p3 pos : Pos} (he : PE X e te) : PE X (.Subscript e (.Slice none none (some (.UnaryOp .USub (.Constant (.int 1) k p1) p2)) p3) pos) (tRevT X.K te) := by
  constructor
  intro pins s σ H Q I h
  apply Subscript_ (thn (he.run pins s σ H _ I h) _)
  rintro v s1 ⟨x, H1, I1, r1, a, xs, rfl, hx, q⟩
  cases r1
  have step : PO X (some (.UnaryOp .USub (.Constant (.int 1) k p1) p2)) (tPart (tUn (rU fun i => .int (-i)) (tC (.int 1)))) := po_some (pe_un un_neg pe_int)
  apply wpAny_Slice (thn (po_none.run pins s1 σ H1 (fun o H2 => o = none ∧ H2 = H1) I1 ⟨rfl, rfl⟩) _)
  rintro vl s2 ⟨l, H2, I2, pl, rfl, rfl⟩
  apply thn (po_none.run pins s2 σ H2 (fun o H3 => o = none ∧ H3 = H2) I2 ⟨rfl, rfl⟩)
  rintro vu s3 ⟨u, H3, I3, pu, rfl, rfl⟩
  apply thn (step.run pins s3 σ H3 (fun o H4 => o = some (-1) ∧ H4 = H3) I3 ⟨1, rfl, -1, rfl, rfl, rfl⟩)
  rintro vs s4 ⟨o, H4, I4, pst, rfl, rfl⟩
  cases pl
  cases pu
  have I5 : Inv X pins σ H4 { s4 with heap := s4.heap.push { cls := .type "slice", data := .fields #[.none, .none, vs] } } := I4.kept (t' := s4.toks) fun b ob q => Heap.get?_push_of_some _ q
  obtain ⟨its, r, ht, hz⟩ := I5.tuple hx
  have hlen := r.length
  show wpAny (model X.prog X.w) X.A (subscriptTail e (.Slice none none (some (.UnaryOp .USub (.Constant (.int 1) k p1) p2)) p3) (.ref a) (.ref s4.heap.objs.size)) (EP X pins σ Q) X.xe { s4 with heap := s4.heap.push { cls := .type "slice", data := .fields #[.none, .none, vs] } }
  apply tail_any (ops := [.ref a, .ref s4.heap.objs.size]) ht.typeIs (PyProof.Rows.slot_tuple_getitem.lookup) _ (by with_unfolding_all rfl)
  apply getItem_tuple_back ht (Heap.IsSliceOf.new _ .none .none vs) pst (by rw [List.size_toArray]; omega)
  exact ⟨.ref _, _, I5.laid (t' := s4.toks) (o := .tup xs.reverse) (fun b ob q => Heap.get?_push_of_some _ q) (Nat.le_refl _) ⟨by rw [List.length_reverse]; exact hz, _, r.reverse, IsTup.new _ _⟩, rfl, q _ (I5.hok.fresh (Nat.le_refl _))⟩
end
end Gl

set_option maxHeartbeats 4000000
/-! calls by names alone -/
namespace Gl
open PySem PySem.Spec PyProof.Rows L2
section
variable {X : Cx} {CX : CXT} {k : Nat} {f : Addr} {fd : FuncData} {ps ks : List Str} {sp : Sp} {E : XK} {x : Str} {p pos : Pos} {kws : List Keyword} {tk : TA} {g : List Value → List Value → List Value} {gV : List V → List V → List V}
/-- f(k = v, ..) -/
theorem pe_kw (F : FnOk X.prog X.w X.K X.mg X.base CX k f fd ps sp) (hr : Room k X.A) (hg : Gl X x) (hm : X.mg x = some (.ref f)) (hk : PySem.W.keepIn X.K (.ref f) = true) (hb : KBinds X.K fd ps ks g gV) (hx : Passes CX X E)
    (hkw : PK X kws tk) (hall : (backToKw pos (keywordEach kws X.env)).all (·.1.isSome) = true := by rfl) (hks : (backToKw pos (keywordEach kws X.env)).filterMap (·.1) = ks := by rfl) (hdb : (x == ("__debug__" : Str)) = false := by decide)
    (hpl : ((backTo pos (starEach [] X.env)).any (·.1) || (backToKw pos (keywordEach kws X.env)).any (·.1.isNone)) = false := by rfl) : PE X (.Call (.Name x p) [] kws pos) (tCallK sp gV E tNil tk) := by
  constructor
  intro pins s σ H Q I h
  apply wpAny_Call_Name_kw (ld_glob I hg hm _ hdb)
  apply PySem.W.callWith_KW0 (h₀ := X.base) I.ok.mod.kin hk hall _ hpl
  apply thn (hkw.run pos pins s σ H _ I h)
  rintro ws s2 ⟨zs, H2, I2, rz, q2⟩
  refine ⟨I2.kIn, ?_⟩
  rw [hks]
  exact run_fnk (us := []) (vs := []) F hr hb hx I2 .nil rz q2
end
/-- how names bind that come in the parameters' order -/
theorem kbOf {K : PySem.W.Frag} {x qual : Str} {st : Stmt} {f : Addr} {fd : FuncData} {ps ks : List Str} (F : Fun K x qual st f fd)
    (h : ∀ (kV doc pm : Value) (an : Option Addr) (cdv ct : Value) (us ws : List Value), (us ++ ws).length = ps.length → bindArgs (PySem.W.fnOf x qual (defArgs st) (defBody st) (defScope st) .none kV doc pm an cdv ct) ⟨us, ks.zip ws⟩ = pure (ps.zip (us ++ ws))) : KBinds K fd ps ks (fun us ws => us ++ ws) (fun vs zs => vs ++ zs) := by
  obtain ⟨oc, od, kV, doc, pm, an, cdv, ct, osl, rfl, lk, hcd⟩ := F.ex
  exact ⟨fun s us ws _ hl => .of_eq (h kV doc pm an cdv ct us ws hl), fun a b => a.append b⟩
/-! ### pairs of numbers, whatever else is changed -/
def KeepT (H H' : Hp) : Prop := ∀ b xs, H b = some (.tup xs) → H' b = some (.tup xs)
theorem KeepT.same {H H' : Hp} (m : Same H H') : KeepT H H' := fun b xs e => m _ _ e
theorem KeepT.trans {H H1 H2 : Hp} (a : KeepT H H1) (b : KeepT H1 H2) : KeepT H H2 := fun c xs e => b _ _ (a _ _ e)
theorem KeepT.mv {f : Addr} {H H' : Hp} (m : Mv f H H') (n : ∀ xs, H f ≠ some (.tup xs)) : KeepT H H' := fun b xs e => m b _ (fun z => n xs (z ▸ e)) e
theorem KeepT.at {p : Addr} {H : Hp} (n : ∀ xs, H p ≠ some (.tup xs)) (o : HO) : KeepT H (upd H p o) := fun b xs e => by
  have : b ≠ p := fun z => n xs (z ▸ e)
  rw [upd_ne this]
  exact e
inductive Pairs (H : Hp) : List V → List (Nat × Nat) → Prop
  | nil : Pairs H [] []
  | cons {a : Addr} {vs : List V} {p : Nat × Nat} {ps : List (Nat × Nat)} : H a = some (.tup [.int (p.1 : Int), .int (p.2 : Int)]) → Pairs H vs ps → Pairs H (.ref a :: vs) (p :: ps)
theorem Pairs.mono {H H' : Hp} (m : KeepT H H') : ∀ {vs : List V} {ps : List (Nat × Nat)}, Pairs H vs ps → Pairs H' vs ps
  | _, _, .nil => .nil
  | _, _, .cons h r => .cons (m _ _ h) (r.mono m)
theorem Pairs.snoc {H : Hp} {a : Addr} {p : Nat × Nat} (h : H a = some (.tup [.int (p.1 : Int), .int (p.2 : Int)])) : ∀ {vs : List V} {ps : List (Nat × Nat)}, Pairs H vs ps → Pairs H (vs ++ [.ref a]) (ps ++ [p])
  | _, _, .nil => .cons h .nil
  | _, _, .cons h' r => .cons h' (r.snoc h)
theorem Pairs.len {H : Hp} : ∀ {vs : List V} {ps : List (Nat × Nat)}, Pairs H vs ps → vs.length = ps.length
  | _, _, .nil => rfl
  | _, _, .cons _ r => congrArg (· + 1) r.len
end Gl

set_option maxHeartbeats 4000000
namespace K67
open PySem PySem.Spec PyProof.Rows L2 Gl
def topS (i : Nat) : Stmt := PySem.Challenge.pw_metbefore_k67_fractions_told.main.body.getD i (.Pass ⟨0, 0, 0, 0⟩)
abbrev sDraw : Stmt := topS 9
theorem scDraw : FnScope ["_law_feed_here", "_law_size", "_law_asked", "_law_found", "_law_spot", "_law_cell", "_law_mixed"] ["_law_feed_here", "_law_size"] (defScope sDraw) := ⟨rfl, rfl, rfl, by decide +kernel, rfl, by decide +kernel, by decide +kernel⟩

/-! ### the feed -/
def cells (l : Addr) (sp ov ak : Int) : List (Key × V) := [(.inr "stock", .ref l), (.inr "spot", .int sp), (.inr "over", .int ov), (.inr "asked", .int ak)]
section
variable {l : Addr} {sp ov ak x : Int}
theorem getStock : valV (cells l sp ov ak) (.inr "stock") = some (.ref l) := by first | rfl | simp [valV, cells]
theorem getSpot : valV (cells l sp ov ak) (.inr "spot") = some (.int sp) := by first | rfl | simp [valV, cells]
theorem getOver : valV (cells l sp ov ak) (.inr "over") = some (.int ov) := by first | rfl | simp [valV, cells]
theorem getAsked : valV (cells l sp ov ak) (.inr "asked") = some (.int ak) := by first | rfl | simp [valV, cells]
theorem putSpot : putK (cells l sp ov ak) (.inr "spot") (.int x) = cells l x ov ak := by first | rfl | simp [putK, cells]
theorem putOver : putK (cells l sp ov ak) (.inr "over") (.int x) = cells l sp x ak := by first | rfl | simp [putK, cells]
theorem putAsked : putK (cells l sp ov ak) (.inr "asked") (.int x) = cells l sp ov x := by first | rfl | simp [putK, cells]
end
structure FeedAt (H : Hp) (f l : Addr) (ns : List Int) (sp ov ak : Int) : Prop where
  d : H f = some (.dK (cells l sp ov ak))
  s : H l = some (.lst (ns.map V.int))
  n : ns.length ≤ 63
  p : 0 ≤ sp
  a : 0 ≤ ak
def Feed (H : Hp) (f : Addr) (B : Nat) (l : Addr) : Prop := ∃ ns sp ov ak, FeedAt H f l ns sp ov ak ∧ ak ≤ (B : Int)
section
variable {H : Hp} {f l p : Addr} {ns : List Int} {sp ov ak : Int}
theorem FeedAt.ne (F : FeedAt H f l ns sp ov ak) : l ≠ f := fun e => by
  have h := F.s
  rw [e, F.d] at h
  cases h
theorem FeedAt.gS (F : FeedAt H f l ns sp ov ak) : DGet H f (.str "stock") (some (.ref l)) := by have h := DGet.k (k := Sum.inr "stock") F.d; rw [getStock] at h; exact h
theorem FeedAt.gP (F : FeedAt H f l ns sp ov ak) : DGet H f (.str "spot") (some (.int sp)) := by have h := DGet.k (k := Sum.inr "spot") F.d; rw [getSpot] at h; exact h
theorem FeedAt.gO (F : FeedAt H f l ns sp ov ak) : DGet H f (.str "over") (some (.int ov)) := by have h := DGet.k (k := Sum.inr "over") F.d; rw [getOver] at h; exact h
theorem FeedAt.gA (F : FeedAt H f l ns sp ov ak) : DGet H f (.str "asked") (some (.int ak)) := by have h := DGet.k (k := Sum.inr "asked") F.d; rw [getAsked] at h; exact h
theorem small4 {l : Addr} {sp ov ak : Int} : (cells l sp ov ak).length < sizeLine := by show 4 < sizeLine; decide
theorem FeedAt.pA (F : FeedAt H f l ns sp ov ak) {x : Int} (h : 0 ≤ x) : ∃ H', DPut H f (.str "asked") (.int x) H' ∧ FeedAt H' f l ns sp ov x ∧ Mv f H H' := by
  have h1 := DPut.k (k := Sum.inr "asked") (v := .int x) F.d small4
  rw [putAsked] at h1
  exact ⟨_, h1, ⟨upd_same, by rw [upd_ne F.ne]; exact F.s, F.n, F.p, h⟩, Mv.at _⟩
theorem FeedAt.pO (F : FeedAt H f l ns sp ov ak) (x : Int) : ∃ H', DPut H f (.str "over") (.int x) H' ∧ FeedAt H' f l ns sp x ak ∧ Mv f H H' := by
  have h1 := DPut.k (k := Sum.inr "over") (v := .int x) F.d small4
  rw [putOver] at h1
  exact ⟨_, h1, ⟨upd_same, by rw [upd_ne F.ne]; exact F.s, F.n, F.p, F.a⟩, Mv.at _⟩
theorem FeedAt.pP (F : FeedAt H f l ns sp ov ak) {x : Int} (h : 0 ≤ x) : ∃ H', DPut H f (.str "spot") (.int x) H' ∧ FeedAt H' f l ns x ov ak ∧ Mv f H H' := by
  have h1 := DPut.k (k := Sum.inr "spot") (v := .int x) F.d small4
  rw [putSpot] at h1
  exact ⟨_, h1, ⟨upd_same, by rw [upd_ne F.ne]; exact F.s, F.n, h, F.a⟩, Mv.at _⟩
theorem FeedAt.new (F : FeedAt H f l ns sp ov ak) (hp : H p = none) (o : HO) : FeedAt (upd H p o) f l ns sp ov ak :=
  ⟨by rw [upd_ne (ne_of_none F.d hp)]; exact F.d, by rw [upd_ne (ne_of_none F.s hp)]; exact F.s, F.n, F.p, F.a⟩
theorem Feed.new {B : Nat} (F : Feed H f B l) (hp : H p = none) (o : HO) : Feed (upd H p o) f B l := by
  obtain ⟨ns, sp, ov, ak, h, b⟩ := F
  exact ⟨ns, sp, ov, ak, h.new hp o, b⟩
theorem Feed.mono {B C : Nat} (F : Feed H f B l) (h : B ≤ C) : Feed H f C l := by
  obtain ⟨ns, sp, ov, ak, h, b⟩ := F
  exact ⟨ns, sp, ov, ak, h, by omega⟩
end
theorem dpInts {K : PySem.W.Frag} {H : Hp} : ∀ ns : List Int, DpAll K H (ns.map V.int) (ns.map PyData.int)
  | [] => .nil
  | n :: r => .cons (.int n) (dpInts r)
theorem eqv_nil : ∀ ns : List Int, PyData.eqv (.list (ns.map PyData.int)) (.list []) = ns.isEmpty
  | [] => rfl
  | _ :: _ => rfl
theorem fmod_nn (a : Int) {b : Int} (h : 0 < b) : 0 ≤ a.fmod b ∧ a.fmod b < b := ⟨Int.fmod_nonneg_of_pos a h, Int.fmod_lt_of_pos a h⟩
theorem shortInts {l : Nat} (h : l ≤ 63) : l ≤ sizeLine := Nat.le_trans h (by decide)

/-! ### _law_draw -/
def spDraw : Sp := fun vs H Q _ => ∃ (f : Addr) (n : Int) (B : Nat) (l : Addr), vs = [.ref f, .int n] ∧ Feed H f B l ∧ B < 2 ^ 40 ∧ 0 < n ∧ n < 2 ^ 60 ∧ ∀ H' r, Mv f H H' → Feed H' f (B + 1) l → 0 ≤ r → r < n → Q (.int r) H'
section
variable {P : Program} {w : World} {K : PySem.W.Frag} {mg : Str → Option Value} {base : Heap}
theorem ok_draw {f : Addr} {fd : FuncData} {k : Nat} (F : Fun K "_law_draw" "_law_draw" sDraw f fd) (mlen : mg "len" = none) : FnOk P w K mg base CX0 (k + 1) f fd ["_law_feed_here", "_law_size"] spDraw := by
  refine F.ok scDraw (fun vs H Q E h => ?_) (fun cdv A outer s H vs Q E hr h => ?_)
  · obtain ⟨f, n, B, l, rfl, _⟩ := h
    rfl
  obtain ⟨g, n, B, l, rfl, ⟨ns, sp, ov, ak, D, hB⟩, hB2, n0, n1, q⟩ := h
  have hu := hu_of hr
  have hu64 : (A.deeper (envOfC "_law_draw" (defScope sDraw) s.heap.objs.size f cdv)).units + 64 < cLine := hr.units
  refine ⟨_, (pss_cons (ps_set (i := 2) scDraw.nd rfl (.inl rfl) (pe_op op_add (pe_dget hu (pv 0) pe_str (fun _ _ => rfl)) pe_int))
(pss_cons (ps_dput hu (pv 0) pe_str (pv 2) rfl)
(pss_cons (ps_if (pt_cmpR op_gt (pe_dget hu (pv 0) pe_str (fun _ _ => rfl)) pe_int (nomark _))
(pss_cons (ps_set (i := 3) scDraw.nd rfl (.inl rfl) (pe_op op_modN (pe_dget hu (pv 0) pe_str (fun _ _ => rfl)) (pv 1)))
(pss_cons (ps_dput hu (pv 0) pe_str (pe_op op_fdivW (pe_dget hu (pv 0) pe_str (fun _ _ => rfl)) (pv 1)) rfl)
(pss_one (ps_ret (pv 3)))))
pss_nil)
(pss_cons (ps_set (i := 4) scDraw.nd rfl (.inl rfl) (pe_dget hu (pv 0) pe_str (fun _ _ => rfl)))
(pss_cons (ps_dput hu (pv 0) pe_str (pe_op op_add (pv 4) pe_int) rfl)
(pss_cons (ps_set (i := 5) scDraw.nd rfl (.inl rfl) pe_int)
(pss_cons (ps_if (pt_cmpR (op_neD hu64) (pe_dget hu (pv 0) pe_str (fun _ _ => rfl)) (pe_lst pa_nil) (nomark _))
(pss_one (ps_set (i := 5) scDraw.nd rfl (.inl rfl) (pe_ix ix_list (pe_dget hu (pv 0) pe_str (fun _ _ => rfl)) (pe_op op_modN (pv 4) (pe_callB call_len_seq (by rfl) mlen PySem.boot_len (pa_cons (pe_dget hu (pv 0) pe_str (fun _ _ => rfl)) pa_nil))) (fun _ _ => rfl))))
pss_nil)
(pss_cons (ps_if (PW.pt (pw_and (pt_cmpR op_ge (pv 5) (pe_op op_pow pe_int pe_int) (nomark _)) (pw_and1 (pt_cmpR op_lt (pv 4) (pe_callB call_len_seq (by rfl) mlen PySem.boot_len (pa_cons (pe_dget hu (pv 0) pe_str (fun _ _ => rfl)) pa_nil)) (nomark _)))))
(pss_cons (ps_dput hu (pv 0) pe_str (pe_op op_fdivW (pv 5) (pv 1)) rfl)
(pss_one (ps_ret (pe_op op_modN (pv 5) (pv 1)))))
pss_nil)
(pss_cons (ps_set (i := 6) scDraw.nd rfl (.inl rfl) (pe_op op_modN (pe_op op_pow (pe_op op_add (pe_op op_add (pe_op op_modN (pv 5) pe_int) (pe_op op_mul pe_int (pv 2))) pe_int) pe_int) pe_int))
(pss_cons (ps_set (i := 6) scDraw.nd rfl (.inl rfl) (pe_op op_modN (pe_op op_pow (pe_op op_add (pv 6) (pe_op op_mul pe_int (pv 2))) pe_int) pe_int))
(pss_one (ps_ret (pe_op op_modN (pe_op op_fdivN (pv 6) pe_int) (pv 1)))))))))))))), ?_⟩
  have a0 := D.a
  have nz : n ≠ 0 := by omega
  have wd : ∀ i : Int, CDivW i n := fun i => wide_div (b := 61) n0 (by omega) (by omega) (by omega)
  -- asked
  obtain ⟨H1, p1, D1, m1⟩ := D.pA (x := ak + 1) (by omega)
  refine ⟨_, rfl, g, _, rfl, D.gA, _, _, rfl, rfl, ?_⟩
  refine ⟨_, rfl, _, rfl, g, H1, rfl, p1, ?_⟩
  have done : ∀ H2 r, Mv g H1 H2 → (∃ sp' ov', FeedAt H2 g l ns sp' ov' (ak + 1)) → 0 ≤ r → r < n → Q (.int r) H2 := fun H2 r m ⟨sp', ov', F'⟩ h0 h1 =>
    q H2 r (m1.trans m) ⟨ns, sp', ov', _, F', by omega⟩ h0 h1
  -- if over > 0
  refine ⟨_, rfl, g, _, rfl, D1.gO, _, _, rfl, rfl, _, rfl, ite2 (fun c => ?_) (fun c => ?_)⟩
  · obtain ⟨H2, p2, D2, m2⟩ := D1.pO (ov / n)
    refine ⟨_, rfl, g, _, rfl, D1.gO, _, rfl, _, _, rfl, rfl, nz, ?_⟩
    refine ⟨_, rfl, g, _, rfl, D1.gO, _, rfl, _, _, rfl, rfl, wd _, _, rfl, g, H2, rfl, p2, ?_⟩
    exact ⟨_, rfl, done H2 _ m2 ⟨_, _, D2⟩ (fmod_nn _ n0).1 (fmod_nn _ n0).2⟩
  · obtain ⟨H2, p2, D2, m2⟩ := D1.pP (x := sp + 1) (by have := D.p; omega)
    refine ⟨_, rfl, g, _, rfl, D1.gP, ?_⟩
    refine ⟨_, rfl, _, _, rfl, rfl, _, rfl, g, H2, rfl, p2, ?_⟩
    -- cell = 29; if stock != []
    refine ⟨_, rfl, g, _, rfl, D2.gS, Nat.zero_le _, fun o no => ?_⟩
    have D3 := D2.new no (.lst [])
    have m3 : Mv g H1 (upd H2 o (.lst [])) := m2.trans (Mv.new no _)
    have on : o ≠ l := fun e => by rw [e, D2.s] at no; cases no
    refine ⟨_, _, .lst (.inl (.inl D3.s)) (dpInts ns), .lst (.inl (.inl upd_same)) .nil, PySem.W.ke_shaped_ints ns, rfl, _, rfl, ?_⟩
    rw [eqv_nil]
    have len0 : (0 : Int) ≤ ((ns.map V.int).length : Int) := by omega
    by_cases en : ns = []
    · subst en
      refine iteF ?_
      generalize (29 : Int) = c
      -- if cell >= 10 ** 18 and spot < len(stock)
      refine ⟨_, rfl, _, _, rfl, rfl, ⟨by decide, by decide, by decide⟩, _, _, rfl, rfl, _, rfl, ite2 (fun c1 => ?_) (fun c1 => ?_)⟩
      · refine ⟨_, rfl, _, rfl, g, _, rfl, D3.gS, l, _, rfl, .inl (.inl (.inl D3.s)), _, _, rfl, rfl, _, rfl, ite2 (fun c2 => ?_) (fun c2 => ?_)⟩
        · obtain ⟨H4, p4, D4, m4⟩ := D3.pO (c / n)
          refine ⟨_, rfl, _, rfl, _, _, rfl, rfl, wd _, _, rfl, g, H4, rfl, p4, ?_⟩
          exact ⟨_, rfl, _, rfl, _, _, rfl, rfl, nz, done _ _ (m3.trans m4) ⟨_, _, D4⟩ (fmod_nn _ n0).1 (fmod_nn _ n0).2⟩
        · obtain ⟨z0, z1⟩ := fmod_nn c (b := 2147483587) (by decide)
          refine ⟨_, rfl, _, _, rfl, rfl, (by show (_ : Int) ≠ 0; decide), _, rfl, _, _, rfl, rfl, .inl ⟨by decide, by decide⟩, _, _, rfl, rfl, _, _, rfl, rfl, _, _, rfl, rfl, ⟨by decide, by decide, by omega⟩, _, _, rfl, rfl, (by show (_ : Int) ≠ 0; decide), ?_⟩
          obtain ⟨w0, w1⟩ := fmod_nn ((c.fmod 2147483587 + 6007 * (ak + 1) + 5) ^ (5 : Int).toNat) (b := 2147483629) (by decide)
          refine ⟨_, rfl, _, rfl, _, _, rfl, rfl, .inl ⟨by decide, by decide⟩, _, _, rfl, rfl, _, _, rfl, rfl, ⟨by decide, by decide, by omega⟩, _, _, rfl, rfl, (by show (_ : Int) ≠ 0; decide), ?_⟩
          refine ⟨_, rfl, _, _, rfl, rfl, ⟨by decide, by decide⟩, _, rfl, _, _, rfl, rfl, nz, ?_⟩
          exact done _ _ m3 ⟨_, _, D3⟩ (fmod_nn _ n0).1 (fmod_nn _ n0).2
      · obtain ⟨z0, z1⟩ := fmod_nn c (b := 2147483587) (by decide)
        refine ⟨_, rfl, _, _, rfl, rfl, (by show (_ : Int) ≠ 0; decide), _, rfl, _, _, rfl, rfl, .inl ⟨by decide, by decide⟩, _, _, rfl, rfl, _, _, rfl, rfl, _, _, rfl, rfl, ⟨by decide, by decide, by omega⟩, _, _, rfl, rfl, (by show (_ : Int) ≠ 0; decide), ?_⟩
        obtain ⟨w0, w1⟩ := fmod_nn ((c.fmod 2147483587 + 6007 * (ak + 1) + 5) ^ (5 : Int).toNat) (b := 2147483629) (by decide)
        refine ⟨_, rfl, _, rfl, _, _, rfl, rfl, .inl ⟨by decide, by decide⟩, _, _, rfl, rfl, _, _, rfl, rfl, ⟨by decide, by decide, by omega⟩, _, _, rfl, rfl, (by show (_ : Int) ≠ 0; decide), ?_⟩
        refine ⟨_, rfl, _, _, rfl, rfl, ⟨by decide, by decide⟩, _, rfl, _, _, rfl, rfl, nz, ?_⟩
        exact done _ _ m3 ⟨_, _, D3⟩ (fmod_nn _ n0).1 (fmod_nn _ n0).2
    · have ie : ns.isEmpty = false := by cases ns with | nil => exact absurd rfl en | cons _ _ => rfl
      rw [ie]
      refine iteT ?_
      have lp : 0 < ((ns.map V.int).length : Int) := by rw [List.length_map]; cases ns with | nil => exact absurd rfl en | cons _ _ => simp only [List.length_cons]; omega
      have hk := fmod_nn sp lp
      obtain ⟨j, hj⟩ : ∃ j : Nat, sp.fmod ((ns.map V.int).length : Int) = (j : Int) := ⟨_, (Int.toNat_of_nonneg hk.1).symm⟩
      rw [hj] at hk
      have jl : j < ns.length := by have := hk.2; rw [List.length_map] at this; omega
      have gj : (ns.map V.int)[j]? = some (.int ns[j]) := by rw [List.getElem?_map, List.getElem?_eq_getElem jl]; rfl
      refine ⟨_, rfl, g, _, rfl, D3.gS, _, rfl, _, rfl, g, _, rfl, D3.gS, l, _, rfl, .inl (.inl (.inl D3.s)), _, _, rfl, rfl, by omega, _, _, _, _, rfl, rfl, .inl (.inl D3.s), at_of hj gj, ?_⟩
      generalize ns[j] = c
      -- if cell >= 10 ** 18 and spot < len(stock)
      refine ⟨_, rfl, _, _, rfl, rfl, ⟨by decide, by decide, by decide⟩, _, _, rfl, rfl, _, rfl, ite2 (fun c1 => ?_) (fun c1 => ?_)⟩
      · refine ⟨_, rfl, _, rfl, g, _, rfl, D3.gS, l, _, rfl, .inl (.inl (.inl D3.s)), _, _, rfl, rfl, _, rfl, ite2 (fun c2 => ?_) (fun c2 => ?_)⟩
        · obtain ⟨H4, p4, D4, m4⟩ := D3.pO (c / n)
          refine ⟨_, rfl, _, rfl, _, _, rfl, rfl, wd _, _, rfl, g, H4, rfl, p4, ?_⟩
          exact ⟨_, rfl, _, rfl, _, _, rfl, rfl, nz, done _ _ (m3.trans m4) ⟨_, _, D4⟩ (fmod_nn _ n0).1 (fmod_nn _ n0).2⟩
        · obtain ⟨z0, z1⟩ := fmod_nn c (b := 2147483587) (by decide)
          refine ⟨_, rfl, _, _, rfl, rfl, (by show (_ : Int) ≠ 0; decide), _, rfl, _, _, rfl, rfl, .inl ⟨by decide, by decide⟩, _, _, rfl, rfl, _, _, rfl, rfl, _, _, rfl, rfl, ⟨by decide, by decide, by omega⟩, _, _, rfl, rfl, (by show (_ : Int) ≠ 0; decide), ?_⟩
          obtain ⟨w0, w1⟩ := fmod_nn ((c.fmod 2147483587 + 6007 * (ak + 1) + 5) ^ (5 : Int).toNat) (b := 2147483629) (by decide)
          refine ⟨_, rfl, _, rfl, _, _, rfl, rfl, .inl ⟨by decide, by decide⟩, _, _, rfl, rfl, _, _, rfl, rfl, ⟨by decide, by decide, by omega⟩, _, _, rfl, rfl, (by show (_ : Int) ≠ 0; decide), ?_⟩
          refine ⟨_, rfl, _, _, rfl, rfl, ⟨by decide, by decide⟩, _, rfl, _, _, rfl, rfl, nz, ?_⟩
          exact done _ _ m3 ⟨_, _, D3⟩ (fmod_nn _ n0).1 (fmod_nn _ n0).2
      · obtain ⟨z0, z1⟩ := fmod_nn c (b := 2147483587) (by decide)
        refine ⟨_, rfl, _, _, rfl, rfl, (by show (_ : Int) ≠ 0; decide), _, rfl, _, _, rfl, rfl, .inl ⟨by decide, by decide⟩, _, _, rfl, rfl, _, _, rfl, rfl, _, _, rfl, rfl, ⟨by decide, by decide, by omega⟩, _, _, rfl, rfl, (by show (_ : Int) ≠ 0; decide), ?_⟩
        obtain ⟨w0, w1⟩ := fmod_nn ((c.fmod 2147483587 + 6007 * (ak + 1) + 5) ^ (5 : Int).toNat) (b := 2147483629) (by decide)
        refine ⟨_, rfl, _, rfl, _, _, rfl, rfl, .inl ⟨by decide, by decide⟩, _, _, rfl, rfl, _, _, rfl, rfl, ⟨by decide, by decide, by omega⟩, _, _, rfl, rfl, (by show (_ : Int) ≠ 0; decide), ?_⟩
        refine ⟨_, rfl, _, _, rfl, rfl, ⟨by decide, by decide⟩, _, rfl, _, _, rfl, rfl, nz, ?_⟩
        exact done _ _ m3 ⟨_, _, D3⟩ (fmod_nn _ n0).1 (fmod_nn _ n0).2
end
end K67

set_option maxHeartbeats 4000000
namespace K67
open PySem PySem.Spec PyProof.Rows L2 Gl
section
variable {P : Program} {w : World} {K : PySem.W.Frag} {mg : Str → Option Value} {base : Heap}
/-! ### numbers -/
def isNum : PyData → Bool
  | .int i => decide (0 ≤ i)
  | _ => false
def spNum (K : PySem.W.Frag) : Sp := fun vs H Q _ => ∃ v d, vs = [v] ∧ Dp K H v d ∧ Q (.bl (isNum d)) H
abbrev sNum : Stmt := topS 2
theorem ok_num {f : Addr} {fd : FuncData} {k : Nat} (F : Fun K "is_number" "is_number" sNum f fd) (misinstance : mg "isinstance" = none) (mint : mg "int" = none) (mbool : mg "bool" = none) : FnOk P w K mg base CX0 (k + 1) f fd ["thing"] (spNum K) := by
  have scThis : FnScope ["thing"] ["thing"] (defScope sNum) := ⟨rfl, rfl, rfl, by decide +kernel, rfl, by decide +kernel, by decide +kernel⟩
  refine F.ok scThis (fun vs H Q E h => ?_) (fun cdv A outer s H vs Q E hr h => ?_)
  · obtain ⟨v, d, rfl, _⟩ := h
    rfl
  obtain ⟨v, d, rfl, hd, q⟩ := h
  refine ⟨_, (pss_one (ps_ret (pe_and (pe_callB call_isi (by rfl) misinstance (by decide +kernel) (pa_cons (pv 0) (pa_cons (pe_bltn (v := .ty "int") (u := .type "int") (by rfl) mint (by decide +kernel) rfl) pa_nil))) (pe_and (pe_not (pe_callB call_isi (by rfl) misinstance (by decide +kernel) (pa_cons (pv 0) (pa_cons (pe_bltn (v := .ty "bool") (u := .type "bool") (by rfl) mbool (by decide +kernel) rfl) pa_nil)))) (pe_one (pe_cmpR op_ge (pv 0) pe_int (nomark _))))))), ?_⟩
  cases hd with
  | int i =>
    refine ⟨_, rfl, _, _, _, _, true, rfl, .ty _, dpTy (.int i), kit_ty kt_int_int, _, rfl, iteT ?_⟩
    refine ⟨_, rfl, _, _, _, _, false, rfl, .ty _, dpTy (.int i), kit_ty kt_int_bool, _, rfl, ?_⟩
    exact ⟨_, rfl, iteT ⟨_, rfl, _, _, rfl, rfl, q⟩⟩
  | bl b =>
    refine ⟨_, rfl, _, _, _, _, true, rfl, .ty _, dpTy (.bl b), kit_ty kt_bool_int, _, rfl, iteT ?_⟩
    refine ⟨_, rfl, _, _, _, _, true, rfl, .ty _, dpTy (.bl b), kit_ty kt_bool_bool, _, rfl, ?_⟩
    exact ⟨_, rfl, iteF q⟩
  | non => exact ⟨_, rfl, _, _, _, _, false, rfl, .ty _, dpTy .non, kit_ty kt_NoneType_int, _, rfl, iteF q⟩
  | str x => exact ⟨_, rfl, _, _, _, _, false, rfl, .ty _, dpTy (.str x), kit_ty kt_str_int, _, rfl, iteF q⟩
  | lst s a => exact ⟨_, rfl, _, _, _, _, false, rfl, .ty _, dpTy (.lst s a), kit_ty kt_list_int, _, rfl, iteF q⟩
  | tup s a => exact ⟨_, rfl, _, _, _, _, false, rfl, .ty _, dpTy (.tup s a), kit_ty kt_tuple_int, _, rfl, iteF q⟩
/-! ### is_fraction -/
def isFrac : PyData → Bool
  | .tuple [.int a, .int b] => decide (0 ≤ a) && decide (0 < b) && decide (Nat.gcd a.natAbs b.natAbs = 1)
  | _ => false
def spFrac (K : PySem.W.Frag) : Sp := fun vs H Q _ => ∃ v d, vs = [v] ∧ Dp K H v d ∧ Q (.bl (isFrac d)) H
abbrev sFrac : Stmt := topS 4
theorem isFrac_no {ds : List PyData} (h : ds.length ≠ 2) : isFrac (.tuple ds) = false := by
  match ds, h with
  | [], _ => rfl
  | [d], _ =>
    unfold isFrac
    split <;> simp_all
  | [_, _], h => exact absurd rfl h
  | _ :: _ :: _ :: _, _ => unfold isFrac; split <;> simp_all
theorem isFrac_not {d e : PyData} (h : isNum d = false ∨ isNum e = false) : isFrac (.tuple [d, e]) = false := by
  unfold isFrac
  split
  · rename_i a b heq
    cases heq
    rcases h with h | h
    · have : ¬ 0 ≤ a := of_decide_eq_false h
      rw [decide_eq_false this]; rfl
    · have : ¬ 0 ≤ b := of_decide_eq_false h
      rw [decide_eq_false (show ¬ 0 < b by omega), Bool.and_false]; rfl
  · rfl
theorem num_of {d : PyData} (h : isNum d = true) : ∃ i, d = .int i ∧ 0 ≤ i := by
  cases d with
  | int i => exact ⟨i, rfl, of_decide_eq_true h⟩
  | _ => cases h
theorem ok_frac {f fn : Addr} {fd dn : FuncData} {k : Nat} (F : Fun K "is_fraction" "is_fraction" sFrac f fd) (Gnum : FnOk P w K mg base CX0 k fn dn ["thing"] (spNum K)) (mnum : mg "is_number" = some (.ref fn)) (knum : PySem.W.keepIn K (.ref fn) = true) (bnum : Binds K dn ["thing"] [])
    (misinstance : mg "isinstance" = none) (mtuple : mg "tuple" = none) (mlen : mg "len" = none) (mgcd : mg "gcd" = some (.builtin "math.gcd")) : FnOk P w K mg base CX0 (k + 1) f fd ["thing"] (spFrac K) := by
  have scThis : FnScope ["thing"] ["thing"] (defScope sFrac) := ⟨rfl, rfl, rfl, by decide +kernel, rfl, by decide +kernel, by decide +kernel⟩
  refine F.ok scThis (fun vs H Q E h => ?_) (fun cdv A outer s H vs Q E hr h => ?_)
  · obtain ⟨v, d, rfl, _⟩ := h
    rfl
  obtain ⟨v, d, rfl, hd, q⟩ := h
  refine ⟨_, (pss_cons (ps_if (PW.pt (pw_or (pt_not (pt_val (pe_callB call_isi (by rfl) misinstance (by decide +kernel) (pa_cons (pv 0) (pa_cons (pe_bltn (v := .ty "tuple") (u := .type "tuple") (by rfl) mtuple (by decide +kernel) rfl) pa_nil))))) (pw_or (pt_cmpR op_ne (pe_callB call_len_seq (by rfl) mlen PySem.boot_len (pa_cons (pv 0) pa_nil)) pe_int (nomark _)) (pw_or (pt_not (pt_val (pe_call Gnum (hr.mono (by omega)) (by rfl) mnum knum bnum .nil pass0 (pa_cons (pe_ix ix_tup (pv 0) pe_int (fun _ _ => rfl)) pa_nil)))) (pw_or1 (pt_not (pt_val (pe_call Gnum (hr.mono (by omega)) (by rfl) mnum knum bnum .nil pass0 (pa_cons (pe_ix ix_tup (pv 0) pe_int (fun _ _ => rfl)) pa_nil)))))))))
(pss_one (ps_ret pe_bl))
pss_nil)
(pss_one (ps_ret (pe_and (pe_cmpR op_gt (pe_ix ix_tup (pv 0) pe_int (fun _ _ => rfl)) pe_int (nomark _)) (pe_one (pe_cmpR op_eq (pe_callBfun cr_gcd (by rfl) mgcd (pa_cons (pe_ix ix_tup (pv 0) pe_int (fun _ _ => rfl)) (pa_cons (pe_ix ix_tup (pv 0) pe_int (fun _ _ => rfl)) pa_nil))) pe_int (nomark _))))))), ?_⟩
  have no : ∀ {d : PyData} {v : V}, Dp K H v d → kitB (tyOf d) "tuple" = some false → isFrac d = false → Q (.bl (isFrac d)) H → Q (.bl false) H := fun _ _ e q => by rw [e] at q; exact q
  cases hd with
  | int i => exact ⟨_, rfl, _, _, _, _, false, rfl, .ty _, dpTy (.int i), kit_ty kt_int_tuple, _, rfl, iteT q⟩
  | bl b => exact ⟨_, rfl, _, _, _, _, false, rfl, .ty _, dpTy (.bl b), kit_ty kt_bool_tuple, _, rfl, iteT q⟩
  | non => exact ⟨_, rfl, _, _, _, _, false, rfl, .ty _, dpTy .non, kit_ty kt_NoneType_tuple, _, rfl, iteT q⟩
  | str x => exact ⟨_, rfl, _, _, _, _, false, rfl, .ty _, dpTy (.str x), kit_ty kt_str_tuple, _, rfl, iteT q⟩
  | lst s a => exact ⟨_, rfl, _, _, _, _, false, rfl, .ty _, dpTy (.lst s a), kit_ty kt_list_tuple, _, rfl, iteT q⟩
  | @tup a xs ds sa da =>
    refine ⟨_, rfl, _, _, _, _, true, rfl, .ty _, dpTy (.tup sa da), kit_ty kt_tuple_tuple, _, rfl, iteF ?_⟩
    have le := DpAll_len da
    refine ⟨_, rfl, a, xs, rfl, .inr sa, rfl, _, rfl, ite2 (fun c => ?_) (fun c => ?_)⟩
    · have ne : ds.length ≠ 2 := fun e => by
        rw [le, e] at c
        exact absurd c (by decide)
      rw [isFrac_no ne] at q
      exact iteT q
    · have e2 : ds.length = 2 := by
        rcases Decidable.em (ds.length = 2) with e | e
        · exact e
        · exfalso
          apply c
          have : ¬ (V.int (xs.length : Int) = V.int 2) := fun z => by
            have z' := V.int.inj z
            omega
          rw [decide_eq_false this]
          rfl
      cases da with
      | nil => cases e2
      | @cons x0 xr d0 dr a0 ar =>
        cases ar with
        | nil => cases e2
        | @cons x1 xs2 d1 ds2 a1 a2 =>
          cases a2 with
          | cons _ _ => simp at e2
          | nil =>
            have i0 : atI [x0, x1] 0 = some x0 := atI_nat (j := 0) rfl
            have i1 : atI [x0, x1] 1 = some x1 := atI_nat (j := 1) rfl
            refine ⟨_, rfl, a, _, _, _, rfl, rfl, sa, i0, _, _, rfl, a0, _, rfl, ?_⟩
            cases n0 : isNum d0 with
            | false =>
              rw [isFrac_not (.inl n0)] at q
              exact iteT q
            | true =>
              refine iteF ⟨_, rfl, a, _, _, _, rfl, rfl, sa, i1, _, _, rfl, a1, _, rfl, ?_⟩
              cases n1 : isNum d1 with
              | false =>
                rw [isFrac_not (.inr n1)] at q
                exact iteT q
              | true =>
                obtain ⟨x, rfl, hx⟩ := num_of n0
                obtain ⟨y, rfl, hy⟩ := num_of n1
                cases a0
                cases a1
                refine iteF ⟨_, rfl, a, _, _, _, rfl, rfl, sa, i1, _, _, rfl, rfl, _, rfl, ?_⟩
                have q' : Q (.bl (decide (0 ≤ x) && decide (0 < y) && decide (Nat.gcd x.natAbs y.natAbs = 1))) H := q
                rw [decide_eq_true hx, Bool.true_and] at q'
                refine ite2 (fun c => ?_) (fun c => ?_)
                · have c' : 0 < y := of_decide_eq_true c
                  rw [decide_eq_true c', Bool.true_and] at q'
                  refine ⟨_, rfl, a, _, _, _, rfl, rfl, sa, i0, _, rfl, a, _, _, _, rfl, rfl, sa, i1, _, _, rfl, rfl, ?_⟩
                  have e : decide (V.int ((Nat.gcd x.natAbs y.natAbs : Nat) : Int) = V.int 1) = decide (Nat.gcd x.natAbs y.natAbs = 1) := decide_eq_decide.mpr ⟨fun z => by have := V.int.inj z; omega, fun z => by rw [z]; rfl⟩
                  rw [← e] at q'
                  exact q'
                · have c' : ¬ 0 < y := of_decide_eq_false (Bool.eq_false_iff.mpr c)
                  rw [decide_eq_false c', Bool.false_and] at q'
                  exact q'
end
end K67

set_option maxHeartbeats 4000000
namespace K67
open PySem PySem.Spec PyProof.Rows L2 Gl
/-! ### fractions: the mathematics -/
def low (p : Nat × Nat) : Nat × Nat := (p.1 / Nat.gcd p.1 p.2, p.2 / Nat.gcd p.1 p.2)
def prd : List (Nat × Nat) → Nat × Nat
  | [] => (1, 1)
  | p :: r => (p.1 * (prd r).1, p.2 * (prd r).2)
def prD (p : Nat × Nat) : PyData := .tuple [.int (p.1 : Int), .int (p.2 : Int)]
section
variable {P : Program} {w : World} {K : PySem.W.Frag} {mg : Str → Option Value} {base : Heap}
theorem pair_of {H : Hp} {v : V} {p : Nat × Nat} (h : Dp K H v (prD p)) : ∃ a, v = .ref a ∧ SqT K H a [.int (p.1 : Int), .int (p.2 : Int)] := by
  obtain ⟨a, xs, rfl, s, d⟩ := dpTup h
  cases d with
  | cons a b =>
    cases a
    cases b with
    | cons a b =>
      cases a
      cases b
      exact ⟨_, rfl, s⟩
theorem dp_pair {H : Hp} {a : Addr} {x y : Nat} (s : SqT K H a [.int (x : Int), .int (y : Int)]) : Dp K H (.ref a) (prD (x, y)) := .tup s (.cons (.int _) (.cons (.int _) .nil))
/-! ### one_less -/
def spLess (K : PySem.W.Frag) : Sp := fun vs H Q _ => ∃ v p, vs = [v] ∧ Dp K H v (prD p) ∧ p.1 ≤ p.2 ∧ ∀ r H', Same H H' → H r = none → H' r = some (.tup [.int ((p.2 - p.1 : Nat) : Int), .int (p.2 : Int)]) → Q (.ref r) H'
abbrev sLess : Stmt := topS 6
theorem ok_less {f : Addr} {fd : FuncData} {k : Nat} (F : Fun K "one_less" "one_less" sLess f fd) : FnOk P w K mg base CX0 (k + 1) f fd ["fraction"] (spLess K) := by
  have scThis : FnScope ["fraction", "over", "under"] ["fraction"] (defScope sLess) := ⟨rfl, rfl, rfl, by decide +kernel, rfl, by decide +kernel, by decide +kernel⟩
  refine F.ok scThis (fun vs H Q E h => ?_) (fun cdv A outer s H vs Q E hr h => ?_)
  · obtain ⟨v, d, rfl, _⟩ := h
    rfl
  obtain ⟨v, ⟨x, y⟩, rfl, hd, hle, q⟩ := h
  refine ⟨_, (pss_cons (ps_asg (pv 0) (pg_tup rfl (pgs_cons (pg_name (i := 1) scThis.nd rfl (.inl rfl)) (pgs_cons (pg_name (i := 2) scThis.nd rfl (.inl rfl)) pgs_nil))))
(pss_one (ps_ret (pe_tup (pa_cons (pe_op op_sub (pv 2) (pv 1)) (pa_cons (pv 2) pa_nil)))))), ?_⟩
  obtain ⟨a, rfl, sa⟩ := pair_of hd
  refine ⟨_, rfl, a, _, rfl, sa, rfl, _, _, rfl, _, _, rfl, rfl, ?_⟩
  refine ⟨_, rfl, _, rfl, _, _, rfl, rfl, _, rfl, (by show 2 ≤ sizeLine; decide), fun t ht => ?_⟩
  refine q t _ (same_new ht _) ht ?_
  rw [upd_same]
  have e : ((y : Int) - (x : Int)) = ((y - x : Nat) : Int) := by have : x ≤ y := hle; omega
  show some (HO.tup [.int ((y : Int) - (x : Int)), .int (y : Int)]) = _
  rw [e]
/-! ### product_of -/
def spProd (K : PySem.W.Frag) : Sp := fun vs H Q _ => ∃ v ps, vs = [v] ∧ Dp K H v (.tuple (ps.map prD)) ∧ ps.length ≤ 60 ∧ (∀ p ∈ ps, p.1 < 2 ^ 64 ∧ p.2 < 2 ^ 64 ∧ 0 < p.2) ∧
  ∀ r H', Same H H' → H r = none → H' r = some (.tup [.int ((low (prd ps)).1 : Int), .int ((low (prd ps)).2 : Int)]) → Q (.ref r) H'
abbrev sProd : Stmt := topS 5
theorem prd_app (ps : List (Nat × Nat)) (p : Nat × Nat) : prd (ps ++ [p]) = ((prd ps).1 * p.1, (prd ps).2 * p.2) := by
  induction ps with
  | nil => show (p.1 * 1, p.2 * 1) = (1 * p.1, 1 * p.2); rw [Nat.mul_one, Nat.mul_one, Nat.one_mul, Nat.one_mul]
  | cons z r ih =>
    show (z.1 * (prd (r ++ [p])).1, z.2 * (prd (r ++ [p])).2) = (z.1 * (prd r).1 * p.1, z.2 * (prd r).2 * p.2)
    rw [ih, Nat.mul_assoc, Nat.mul_assoc]
theorem prd_lt : ∀ (ps : List (Nat × Nat)), (∀ p ∈ ps, p.1 < 2 ^ 64 ∧ p.2 < 2 ^ 64 ∧ 0 < p.2) → (prd ps).1 < 2 ^ (64 * ps.length + 1) ∧ (prd ps).2 < 2 ^ (64 * ps.length + 1) ∧ 0 < (prd ps).2
  | [], _ => by refine ⟨?_, ?_, ?_⟩ <;> (show _; decide)
  | p :: r, h => by
    obtain ⟨h1, h2, h3⟩ := h p List.mem_cons_self
    obtain ⟨i1, i2, i3⟩ := prd_lt r fun q hq => h q (List.mem_cons_of_mem _ hq)
    have e : 2 ^ (64 * (p :: r).length + 1) = 2 ^ 64 * 2 ^ (64 * r.length + 1) := by rw [← Nat.pow_add, List.length_cons]; congr 1; omega
    rw [e]
    exact ⟨Nat.mul_lt_mul'' h1 i1, Nat.mul_lt_mul'' h2 i2, Nat.mul_pos h3 i3⟩
theorem take_ok {ps : List (Nat × Nat)} (h : ∀ p ∈ ps, p.1 < 2 ^ 64 ∧ p.2 < 2 ^ 64 ∧ 0 < p.2) (i : Nat) : ∀ p ∈ ps.take i, p.1 < 2 ^ 64 ∧ p.2 < 2 ^ 64 ∧ 0 < p.2 := fun p hp => h p (List.mem_of_mem_take hp)
theorem nat_lt {n m k : Nat} (h : n < 2 ^ m) (hk : m ≤ k) : ((n : Nat) : Int).natAbs < 2 ^ k := by
  have : ((n : Nat) : Int).natAbs = n := by omega
  rw [this]
  exact Nat.lt_of_lt_of_le h (Nat.pow_le_pow_right (by omega) hk)
theorem gcd_pos {a b : Nat} (h : 0 < b) : 0 < Nat.gcd a b := Nat.gcd_pos_of_pos_right _ h
theorem gcd_lt {a b m : Nat} (h : 0 < b) (hb : b < 2 ^ m) : Nat.gcd a b < 2 ^ m := Nat.lt_of_le_of_lt (Nat.gcd_le_right _ h) hb
theorem ok_prod {f : Addr} {fd : FuncData} {k : Nat} (F : Fun K "product_of" "product_of" sProd f fd) (mgcd : mg "gcd" = some (.builtin "math.gcd")) : FnOk P w K mg base CX0 (k + 1) f fd ["fractions"] (spProd K) := by
  have scThis : FnScope ["fractions", "over", "under", "one", "common"] ["fractions"] (defScope sProd) := ⟨rfl, rfl, rfl, by decide +kernel, rfl, by decide +kernel, by decide +kernel⟩
  refine F.ok scThis (fun vs H Q E h => ?_) (fun cdv A outer s H vs Q E hr h => ?_)
  · obtain ⟨v, d, rfl, _⟩ := h
    rfl
  obtain ⟨v, ps, rfl, hd, hl, hps, q⟩ := h
  refine ⟨_, (pss_cons (ps_asg (pe_tup (pa_cons pe_int (pa_cons pe_int pa_nil))) (pg_tup rfl (pgs_cons (pg_name (i := 1) scThis.nd rfl (.inl rfl)) (pgs_cons (pg_name (i := 2) scThis.nd rfl (.inl rfl)) pgs_nil))))
(pss_cons (ps_for PassesOwn.never rfl (pi_tup (pv 0)) (pg_name (i := 3) scThis.nd rfl (.inl rfl))
(pss_one (ps_par (i := 1) (j := 2) rfl scThis.nd rfl rfl (by decide) rfl rfl (pa_cons (pe_op op_mulW (pv 1) (pe_ix ix_tup (pv 3) pe_int (fun _ _ => rfl))) (pa_cons (pe_op op_mulW (pv 2) (pe_ix ix_tup (pv 3) pe_int (fun _ _ => rfl))) pa_nil)) (by rfl))))
(pss_cons (ps_set (i := 4) scThis.nd rfl (.inl rfl) (pe_callBfun cr_gcd (by rfl) mgcd (pa_cons (pv 1) (pa_cons (pv 2) pa_nil))))
(pss_one (ps_ret (pe_tup (pa_cons (pe_op op_fdivW (pv 1) (pv 4)) (pa_cons (pe_op op_fdivW (pv 2) (pv 4)) pa_nil)))))))), ?_⟩
  obtain ⟨a, xs, rfl, sa, da⟩ := dpTup hd
  have le := DpAll_len da
  rw [List.length_map] at le
  refine ⟨(by show 2 ≤ sizeLine; decide), fun c hc => ?_⟩
  have s1 := same_new hc (.tup [.int 1, .int 1])
  refine ⟨c, _, rfl, .inl (.inl upd_same), rfl, _, _, rfl, _, _, rfl, rfl, ?_⟩
  have sa := same_seqT s1 sa
  have da := dpSameAll s1 _ _ da
  generalize (upd H c (.tup [.int 1, .int 1])) = H1 at s1 sa da ⊢
  refine ⟨_, rfl, a, rfl, ⟨_, sa⟩, for_tup (K := K) (a := a) (xs := xs) (fun i σ H' => ∃ y3 y4, σ = [some (.ref a), some (.int ((prd (ps.take i)).1 : Int)), some (.int ((prd (ps.take i)).2 : Int)), y3, y4] ∧ H' = H1)
    ⟨none, none, rfl, rfl⟩ (fun i σ H' _ h => ?_) (fun i x σ H' hx h => ?_) (fun σ H' h => ?_)⟩
  · obtain ⟨_, _, _, rfl⟩ := h
    exact sa
  · obtain ⟨y3, y4, rfl, rfl⟩ := h
    obtain ⟨d, h1, h2⟩ := DpAll_get da hx
    rw [List.getElem?_map] at h1
    cases hp : ps[i]? with
    | none => rw [hp] at h1; cases h1
    | some p =>
      rw [hp] at h1
      cases h1
      obtain ⟨t, rfl, st⟩ := pair_of h2
      have hi : i < ps.length := (List.getElem?_eq_some_iff.mp hp).1
      have mem : p ∈ ps := List.mem_of_getElem? hp
      obtain ⟨b1, b2, b3⟩ := hps p mem
      obtain ⟨c1, c2, c3⟩ := prd_lt (ps.take i) (take_ok hps i)
      have lt : (ps.take i).length ≤ 60 := by rw [List.length_take]; omega
      have e : ps.take (i + 1) = ps.take i ++ [p] := by rw [List.take_add_one, hp]; rfl
      refine ⟨_, rfl, _, rfl, t, _, _, _, rfl, rfl, st, atI_nat (j := 0) rfl, _, _, rfl, rfl, wide_mul (a := 3842) (b := 64) (nat_lt c1 (by omega)) (nat_lt b1 (by omega)) (by omega) (by omega) (by omega), ?_⟩
      refine ⟨_, rfl, _, rfl, t, _, _, _, rfl, rfl, st, atI_nat (j := 1) rfl, _, _, rfl, rfl, wide_mul (a := 3842) (b := 64) (nat_lt c2 (by omega)) (nat_lt b2 (by omega)) (by omega) (by omega) (by omega), ?_⟩
      rw [e, prd_app]
      exact ⟨_, _, rfl, ⟨_, _, rfl, rfl⟩⟩
  · obtain ⟨y3, y4, rfl, rfl⟩ := h
    have et : ps.take xs.length = ps := by rw [le]; exact List.take_length
    rw [et]
    obtain ⟨c1, c2, c3⟩ := prd_lt ps hps
    have g1 := gcd_pos (a := (prd ps).1) c3
    have g2 := gcd_lt (a := (prd ps).1) c3 c2
    refine ⟨_, rfl, _, rfl, _, _, rfl, ?_⟩
    rw [Int.natAbs_natCast, Int.natAbs_natCast]
    have wd : ∀ i : Int, CDivW i ((Nat.gcd (prd ps).1 (prd ps).2 : Nat) : Int) := fun i => wide_div (b := 3842) (by omega) (nat_lt g2 (by omega)) (by omega) (by omega)
    refine ⟨_, rfl, _, rfl, _, _, rfl, rfl, wd _, _, rfl, _, rfl, _, _, rfl, rfl, wd _, (by show 2 ≤ sizeLine; decide), fun t ht => ?_⟩
    refine q t _ (s1.trans (same_new ht _)) (s1.free ht) ?_
    rw [upd_same]
    rfl
end
end K67

set_option maxHeartbeats 4000000
namespace K67
open PySem PySem.Spec PyProof.Rows L2 Gl
theorem at_mem {xs : List V} {r : Int} (h0 : 0 ≤ r) (h1 : r < (xs.length : Int)) : ∃ v, atI xs r = some v ∧ v ∈ xs := by
  have h : r.toNat < xs.length := by omega
  exact ⟨xs[r.toNat], at_of (j := r.toNat) (by omega) (List.getElem?_eq_getElem h), List.getElem_mem h⟩
theorem at_data {K : PySem.W.Frag} {H : Hp} {xs : List V} {ds : List PyData} {r : Int} (a : DpAll K H xs ds) (h0 : 0 ≤ r) (h1 : r < (ds.length : Int)) : ∃ v d, atI xs r = some v ∧ Dp K H v d ∧ d ∈ ds := by
  have h : r.toNat < xs.length := by rw [DpAll_len a]; omega
  obtain ⟨d, e1, e2⟩ := DpAll_get a (List.getElem?_eq_getElem h)
  exact ⟨xs[r.toNat], d, at_of (j := r.toNat) (by omega) (List.getElem?_eq_getElem h), e2, List.mem_of_getElem? e1⟩
theorem Feed.fo {H : Hp} {f l : Addr} {B : Nat} (F : Feed H f B l) : Fo f H := by
  obtain ⟨ns, sp, ov, ak, h, b⟩ := F
  exact ⟨_, h.d⟩
theorem Feed.same {H H' : Hp} {f l : Addr} {B : Nat} (F : Feed H f B l) (m : Same H H') : Feed H' f B l := by
  obtain ⟨ns, sp, ov, ak, h, b⟩ := F
  exact ⟨ns, sp, ov, ak, ⟨m _ _ h.d, m _ _ h.s, h.n, h.p, h.a⟩, b⟩
section
variable {P : Program} {w : World} {K : PySem.W.Frag} {mg : Str → Option Value} {base : Heap}
/-! ### _law_feed -/
def spFeed (K : PySem.W.Frag) : Sp := fun vs H Q _ => ∃ (a : Addr) (ns : List Int), vs = [.ref a] ∧ SqL K H a (ns.map V.int) ∧ ns.length ≤ 63 ∧ ∀ f H' l, Same H H' → H f = none → H l = none → Feed H' f 0 l → Q (.ref f) H'
abbrev sFeed : Stmt := topS 8
theorem cut63 {ns : List Int} (h : ns.length ≤ 63) : cutV (ns.map V.int) none (some 63) = ns.map V.int := by
  have e := cut_to (ns.map V.int) 63
  unfold Gl.cutD at e
  unfold cutV
  rw [show (some (63 : Int)) = some ((63 : Nat) : Int) from rfl, e]
  exact List.take_of_length_le (by rw [List.length_map]; exact h)
theorem ok_feed {f : Addr} {fd : FuncData} {k : Nat} (F : Fun K "_law_feed" "_law_feed" sFeed f fd) (mlist : mg "list" = none) : FnOk P w K mg base CX0 (k + 1) f fd ["_law_script"] (spFeed K) := by
  have scThis : FnScope ["_law_script"] ["_law_script"] (defScope sFeed) := ⟨rfl, rfl, rfl, by decide +kernel, rfl, by decide +kernel, by decide +kernel⟩
  refine F.ok scThis (fun vs H Q E h => ?_) (fun cdv A outer s H vs Q E hr h => ?_)
  · obtain ⟨v, d, rfl, _⟩ := h
    rfl
  obtain ⟨a, ns, rfl, sa, hl, q⟩ := h
  refine ⟨_, (pss_one (ps_ret (pe_disp (pps_cons pe_str (pe_callTy call_list_of (by rfl) mlist (by decide +kernel) (pa_cons (pe_slice sl_list (pv 0) po_none (po_some pe_int)) pa_nil)) (pps_cons pe_str pe_int (pps_cons pe_str pe_int (pps_cons pe_str pe_int pps_nil)))) (by rfl) (by rfl) (fun z => by cases z) (by decide)))), ?_⟩
  refine fun g hg => ⟨_, rfl, _, rfl, a, _, rfl, (same_new hg _).seq sa, fun c hc => ?_⟩
  have s0 : Same H (upd H g (.dK [])) := same_new hg _
  have s1 := same_new hc (.lst (cutV (ns.map V.int) none (some 63)))
  refine ⟨c, _, rfl, .inl (.inl (.inl upd_same)), fun l hl' => ?_⟩
  have s2 := same_new hl' (.lst (cutV (ns.map V.int) none (some 63)))
  have hgl : g ≠ l := ne_of_none (s1 _ _ upd_same) hl'
  refine ⟨s2 _ _ (s1 _ _ upd_same), cells l 0 0 0, rfl, by show 4 ≤ 15; omega, ?_⟩
  have mk : mergeK [] (cells l 0 0 0) = cells l 0 0 0 := by first | rfl | simp [mergeK, putK, cells]
  rw [mk]
  refine q g _ l (fun b o e => ?_) hg (s0.free (s1.free hl')) ⟨ns, 0, 0, 0, ⟨upd_same, ?_, hl, Int.le_refl _, Int.le_refl _⟩, Int.le_refl _⟩
  · rw [upd_ne (ne_of_none e hg)]
    exact s2 _ _ (s1 _ _ (s0 _ _ e))
  · rw [upd_ne hgl.symm, upd_same, cut63 hl]
/-! ### _law_pick -/
def spPick (K : PySem.W.Frag) : Sp := fun vs H Q _ => ∃ f B x ds l, vs = [.ref f, x] ∧ Feed H f B l ∧ B < 2 ^ 40 ∧ Dp K (off f H) x (.list ds) ∧ 0 < ds.length ∧ ds.length ≤ 1000 ∧
  ∀ H' v d, Mv f H H' → Feed H' f (B + 1) l → Dp K (off f H') v d → d ∈ ds → Q v H'
abbrev sPick : Stmt := topS 10
theorem ok_pick {f fn : Addr} {fd dn : FuncData} {k : Nat} (F : Fun K "_law_pick" "_law_pick" sPick f fd) (Gdraw : FnOk P w K mg base CX0 k fn dn ["_law_feed_here", "_law_size"] spDraw) (mdraw : mg "_law_draw" = some (.ref fn)) (kdraw : PySem.W.keepIn K (.ref fn) = true)
    (bdraw : Binds K dn ["_law_feed_here", "_law_size"] []) (mlen : mg "len" = none) : FnOk P w K mg base CX0 (k + 1) f fd ["_law_feed_here", "_law_some"] (spPick K) := by
  have scThis : FnScope ["_law_feed_here", "_law_some"] ["_law_feed_here", "_law_some"] (defScope sPick) := ⟨rfl, rfl, rfl, by decide +kernel, rfl, by decide +kernel, by decide +kernel⟩
  refine F.ok scThis (fun vs H Q E h => ?_) (fun cdv A outer s H vs Q E hr h => ?_)
  · obtain ⟨f, B, x, ds, l, rfl, _⟩ := h
    rfl
  obtain ⟨g, B, x, ds, l, rfl, hf, hB, hd, l0, l1, q⟩ := h
  refine ⟨_, (pss_one (ps_ret (pe_ix ix_list (pv 1) (pe_call Gdraw (hr.mono (by omega)) (by rfl) mdraw kdraw bdraw .nil pass0 (pa_cons (pv 0) (pa_cons (pe_callB call_len_seq (by rfl) mlen PySem.boot_len (pa_cons (pv 1) pa_nil)) pa_nil))) (fun _ _ => rfl)))), ?_⟩
  obtain ⟨a, xs, rfl, sa, da⟩ := dpLst hd
  have le := DpAll_len da
  refine ⟨_, rfl, _, rfl, _, rfl, a, xs, rfl, .inl (offL sa), g, _, B, _, rfl, hf, hB, by omega, by omega, fun H' r m f' r0 r1 => ?_⟩
  have sa' := m.off.seq sa
  have da' := dpSameAll m.off _ _ da
  obtain ⟨v, d, e1, e2, e3⟩ := at_data da' r0 (by omega)
  exact ⟨a, xs, r, v, rfl, rfl, offL sa', e1, q H' v d m f' e2 e3⟩
/-! ### _law_figure -/
def spFig : Sp := fun vs H Q _ => ∃ f B l, vs = [.ref f] ∧ Feed H f B l ∧ B + 10 < 2 ^ 40 ∧ ∀ H' (n : Nat), Mv f H H' → Feed H' f (B + 4) l → n < 2 ^ 60 → Q (.int (n : Int)) H'
abbrev sFig : Stmt := topS 14
theorem nat_of {r : Int} (h : 0 ≤ r) : ∃ n : Nat, r = (n : Int) := ⟨r.toNat, by omega⟩
theorem ok_fig {f fn : Addr} {fd dn : FuncData} {k : Nat} (F : Fun K "_law_figure" "_law_figure" sFig f fd) (Gdraw : FnOk P w K mg base CX0 k fn dn ["_law_feed_here", "_law_size"] spDraw) (mdraw : mg "_law_draw" = some (.ref fn)) (kdraw : PySem.W.keepIn K (.ref fn) = true)
    (bdraw : Binds K dn ["_law_feed_here", "_law_size"] []) : FnOk P w K mg base CX0 (k + 1) f fd ["_law_feed_here"] spFig := by
  have scThis : FnScope ["_law_feed_here"] ["_law_feed_here"] (defScope sFig) := ⟨rfl, rfl, rfl, by decide +kernel, rfl, by decide +kernel, by decide +kernel⟩
  refine F.ok scThis (fun vs H Q E h => ?_) (fun cdv A outer s H vs Q E hr h => ?_)
  · obtain ⟨f, B, l, rfl, _⟩ := h
    rfl
  obtain ⟨g, B, sl, rfl, hf, hB, q⟩ := h
  refine ⟨_, (pss_one (ps_ret (pe_ix ix_list (pe_lst (pa_cons pe_int (pa_cons pe_int (pa_cons (pe_call Gdraw (hr.mono (by omega)) (by rfl) mdraw kdraw bdraw .nil pass0 (pa_cons (pv 0) (pa_cons pe_int pa_nil))) (pa_cons (pe_call Gdraw (hr.mono (by omega)) (by rfl) mdraw kdraw bdraw .nil pass0 (pa_cons (pv 0) (pa_cons (pe_op op_pow pe_int pe_int) pa_nil))) (pa_cons (pe_op op_shl pe_int (pe_call Gdraw (hr.mono (by omega)) (by rfl) mdraw kdraw bdraw .nil pass0 (pa_cons (pv 0) (pa_cons pe_int pa_nil)))) pa_nil)))))) (pe_call Gdraw (hr.mono (by omega)) (by rfl) mdraw kdraw bdraw .nil pass0 (pa_cons (pv 0) (pa_cons pe_int pa_nil))) (fun _ _ => rfl)))), ?_⟩
  refine ⟨_, rfl, g, _, B, _, rfl, hf, by omega, by omega, by omega, fun H1 r1 m1 f1 a0 a1 => ?_⟩
  refine ⟨_, rfl, _, _, rfl, rfl, ⟨by decide, by decide, by decide⟩, g, _, B + 1, _, rfl, f1, by omega, by decide, by decide, fun H2 r2 m2 f2 b0 b1 => ?_⟩
  refine ⟨_, rfl, g, _, B + 2, _, rfl, f2, by omega, by omega, by omega, fun H3 r3 m3 f3 c0 c1 => ?_⟩
  refine ⟨_, _, rfl, rfl, ⟨by omega, by omega, by decide⟩, (by show 5 ≤ sizeLine; decide), fun l hl => ?_⟩
  obtain ⟨n1, rfl⟩ := nat_of a0
  obtain ⟨n2, rfl⟩ := nat_of b0
  obtain ⟨n3, rfl⟩ := nat_of c0
  have s4 := same_new hl (.lst [.int 0, .int 1, .int (n1 : Int), .int (n2 : Int), .int (1 * 2 ^ ((n3 : Int)).toNat)])
  refine ⟨_, rfl, g, _, B + 3, _, rfl, f3.new hl _, by omega, by omega, by omega, fun H5 r5 m5 f5 d0 d1 => ?_⟩
  have hne : l ≠ g := f3.fo.ne hl
  obtain ⟨v, e1, e2⟩ := at_mem (xs := [.int 0, .int 1, .int (n1 : Int), .int (n2 : Int), .int (1 * 2 ^ ((n3 : Int)).toNat)]) d0 (by show r5 < 5; omega)
  refine ⟨l, _, r5, v, rfl, rfl, .inl (.inl (m5 l _ hne upd_same)), e1, ?_⟩
  have mm : Mv g H H5 := m1.trans (m2.trans (m3.trans ((Mv.same s4).trans m5)))
  have fin : ∀ n : Nat, n < 2 ^ 60 → Q (.int (n : Int)) H5 := fun n hn => q H5 n mm f5 hn
  simp only [List.mem_cons, List.not_mem_nil, or_false] at e2
  rcases e2 with rfl | rfl | rfl | rfl | rfl
  · exact fin 0 (by decide)
  · exact fin 1 (by decide)
  · exact fin n1 (by omega)
  · have b2 : ((n2 : Nat) : Int) < 10 ^ 6 := b1
    exact fin n2 (by omega)
  · have h : n3 < 60 := by omega
    have e : (1 : Int) * 2 ^ ((n3 : Int)).toNat = ((2 ^ n3 : Nat) : Int) := by rw [Int.one_mul, Int.toNat_natCast, Int.natCast_pow]; rfl
    rw [e]
    exact fin _ (Nat.pow_lt_pow_right (by omega) h)
end
end K67

set_option maxHeartbeats 4000000
namespace K67
open PySem PySem.Spec PyProof.Rows L2 Gl
section
variable {P : Program} {w : World} {K : PySem.W.Frag} {mg : Str → Option Value} {base : Heap}
/-! ### _law_parted -/
def spPart (K : PySem.W.Frag) : Sp := fun vs H Q _ => ∃ a b : Nat, vs = [.int (a : Int), .int (b : Int)] ∧ 0 < b ∧ b < 2 ^ 1930 ∧ ∀ r H', Same H H' → H r = none → H' r = some (.tup [.int ((low (a, b)).1 : Int), .int ((low (a, b)).2 : Int)]) → Q (.ref r) H'
abbrev sPart : Stmt := topS 13
def slotNat (σ : L2.St) (i : Nat) : Nat := match σ[i]? with | some (some (.int y)) => y.toNat | _ => 0
theorem fmod_nat (x y : Nat) : ((x : Nat) : Int).fmod ((y : Nat) : Int) = ((x % y : Nat) : Int) := by
  rw [Int.fmod_eq_emod_of_nonneg _ (by omega)]
  rfl
theorem ok_part {f : Addr} {fd : FuncData} {k : Nat} (F : Fun K "_law_parted" "_law_parted" sPart f fd) : FnOk P w K mg base CX0 (k + 1) f fd ["_law_over", "_law_under"] (spPart K) := by
  have scThis : FnScope ["_law_over", "_law_under", "_law_one_part", "_law_rest_part"] ["_law_over", "_law_under"] (defScope sPart) := ⟨rfl, rfl, rfl, by decide +kernel, rfl, by decide +kernel, by decide +kernel⟩
  refine F.ok scThis (fun vs H Q E h => ?_) (fun cdv A outer s H vs Q E hr h => ?_)
  · obtain ⟨v, d, rfl, _⟩ := h
    rfl
  obtain ⟨a, b, rfl, b0, b1, q⟩ := h
  refine ⟨_, (pss_cons (ps_par (i := 2) (j := 3) rfl scThis.nd rfl rfl (by decide) rfl rfl (pa_cons (pv 0) (pa_cons (pv 1) pa_nil)) (by rfl))
(pss_cons (ps_while PassesOwn.never (pt_cmpR op_gt (pv 3) pe_int (nomark _))
(pss_one (ps_par (i := 2) (j := 3) rfl scThis.nd rfl rfl (by decide) rfl rfl (pa_cons (pv 3) (pa_cons (pe_op op_modN (pv 2) (pv 3)) pa_nil)) (by rfl))))
(pss_one (ps_ret (pe_tup (pa_cons (pe_op op_fdivW (pv 0) (pv 2)) (pa_cons (pe_op op_fdivW (pv 1) (pv 2)) pa_nil))))))), ?_⟩
  refine ⟨_, rfl, _, rfl, _, _, rfl, ?_⟩
  refine while_by (fun σ H' => ∃ x y : Nat, σ = [some (.int (a : Int)), some (.int (b : Int)), some (.int (x : Int)), some (.int (y : Int))] ∧ H' = H ∧ Nat.gcd x y = Nat.gcd a b) (fun σ _ => slotNat σ 3) ⟨a, b, rfl, rfl, rfl⟩ (fun σ H' h => ?_) (fun σ H' Q1 Q2 m h => ?_)
  · obtain ⟨x, y, rfl, rfl, eg⟩ := h
    refine ⟨_, rfl, _, _, rfl, rfl, _, rfl, ite2 (fun c => ?_) (fun c => ?_)⟩
    · have c' : (0 : Int) < (y : Int) := of_decide_eq_true c
      refine ⟨_, rfl, _, rfl, _, rfl, _, _, rfl, rfl, by omega, _, _, rfl, ?_⟩
      have ef := fmod_nat x y
      refine ⟨⟨y, x % y, by rw [← ef]; rfl, rfl, ?_⟩, ?_⟩
      · rw [← eg, Nat.gcd_comm x y, Nat.gcd_rec y x, Nat.gcd_comm]
      · show (((x : Nat) : Int).fmod ((y : Nat) : Int)).toNat < ((y : Nat) : Int).toNat
        rw [ef, Int.toNat_natCast, Int.toNat_natCast]
        exact Nat.mod_lt _ (by omega)
    · have c' : ¬ (0 : Int) < (y : Int) := of_decide_eq_false (Bool.eq_false_iff.mpr c)
      have y0 : y = 0 := by omega
      subst y0
      rw [Nat.gcd_zero_right] at eg
      subst eg
      have g1 := gcd_pos (a := a) b0
      have g2 := gcd_lt (a := a) b0 b1
      have wd : ∀ i : Int, CDivW i ((Nat.gcd a b : Nat) : Int) := fun i => wide_div (b := 1930) (by omega) (nat_lt g2 (by omega)) (by omega) (by omega)
      refine ⟨_, rfl, _, rfl, _, _, rfl, rfl, wd _, _, rfl, _, rfl, _, _, rfl, rfl, wd _, (by show 2 ≤ sizeLine; decide), fun t ht => ?_⟩
      refine q t _ (same_new ht _) ht ?_
      rw [upd_same]
      rfl
  · obtain ⟨v, e, i, j, e1, e2, b, e3, h⟩ := h
    exact ⟨v, e, i, j, e1, e2, b, e3, m _ _ h⟩
abbrev sCnt : Stmt := topS 11
theorem ok_cnt {f : Addr} {fd : FuncData} {k : Nat} (F : Fun K "_law_is_counted" "_law_is_counted" sCnt f fd) (misinstance : mg "isinstance" = none) (mint : mg "int" = none) (mbool : mg "bool" = none) : FnOk P w K mg base CX0 (k + 1) f fd ["_law_item"] (spNum K) := by
  have scThis : FnScope ["_law_item"] ["_law_item"] (defScope sCnt) := ⟨rfl, rfl, rfl, by decide +kernel, rfl, by decide +kernel, by decide +kernel⟩
  refine F.ok scThis (fun vs H Q E h => ?_) (fun cdv A outer s H vs Q E hr h => ?_)
  · obtain ⟨v, d, rfl, _⟩ := h
    rfl
  obtain ⟨v, d, rfl, hd, q⟩ := h
  refine ⟨_, (pss_one (ps_ret (pe_and (pe_callB call_isi (by rfl) misinstance (by decide +kernel) (pa_cons (pv 0) (pa_cons (pe_bltn (v := .ty "int") (u := .type "int") (by rfl) mint (by decide +kernel) rfl) pa_nil))) (pe_and (pe_not (pe_callB call_isi (by rfl) misinstance (by decide +kernel) (pa_cons (pv 0) (pa_cons (pe_bltn (v := .ty "bool") (u := .type "bool") (by rfl) mbool (by decide +kernel) rfl) pa_nil)))) (pe_one (pe_cmpR op_ge (pv 0) pe_int (nomark _))))))), ?_⟩
  cases hd with
  | int i =>
    refine ⟨_, rfl, _, _, _, _, true, rfl, .ty _, dpTy (.int i), kit_ty kt_int_int, _, rfl, iteT ?_⟩
    refine ⟨_, rfl, _, _, _, _, false, rfl, .ty _, dpTy (.int i), kit_ty kt_int_bool, _, rfl, ?_⟩
    exact ⟨_, rfl, iteT ⟨_, rfl, _, _, rfl, rfl, q⟩⟩
  | bl b =>
    refine ⟨_, rfl, _, _, _, _, true, rfl, .ty _, dpTy (.bl b), kit_ty kt_bool_int, _, rfl, iteT ?_⟩
    refine ⟨_, rfl, _, _, _, _, true, rfl, .ty _, dpTy (.bl b), kit_ty kt_bool_bool, _, rfl, ?_⟩
    exact ⟨_, rfl, iteF q⟩
  | non => exact ⟨_, rfl, _, _, _, _, false, rfl, .ty _, dpTy .non, kit_ty kt_NoneType_int, _, rfl, iteF q⟩
  | str x => exact ⟨_, rfl, _, _, _, _, false, rfl, .ty _, dpTy (.str x), kit_ty kt_str_int, _, rfl, iteF q⟩
  | lst s a => exact ⟨_, rfl, _, _, _, _, false, rfl, .ty _, dpTy (.lst s a), kit_ty kt_list_int, _, rfl, iteF q⟩
  | tup s a => exact ⟨_, rfl, _, _, _, _, false, rfl, .ty _, dpTy (.tup s a), kit_ty kt_tuple_int, _, rfl, iteF q⟩
/-! ### _law_is_part -/
def spIsp (K : PySem.W.Frag) : Sp := fun vs H Q _ => ∃ v d, vs = [v] ∧ Dp K H v d ∧ PyData.showable d = true ∧ ∀ H', Same H H' → Q (.bl (isFrac d)) H'
abbrev sIsp : Stmt := topS 15
theorem low_one {x y : Nat} (hy : 0 < y) : PyData.eqv (prD (low (x, y))) (prD (x, y)) = decide (Nat.gcd x y = 1) := by
  have g1 := gcd_pos (a := x) hy
  by_cases e : Nat.gcd x y = 1
  · rw [decide_eq_true e]
    have : low (x, y) = (x, y) := by
      unfold low
      rw [e, Nat.div_one, Nat.div_one]
    rw [this]
    exact SeqAt.eqv_refl _ rfl
  · rw [decide_eq_false e]
    have h : y / Nat.gcd x y < y := Nat.div_lt_self hy (by omega)
    have ne : ((y / Nat.gcd x y : Nat) : Int) ≠ (y : Int) := by omega
    show (((x / Nat.gcd x y : Nat) : Int) == (x : Int) && (((y / Nat.gcd x y : Nat) : Int) == (y : Int) && true)) = false
    rw [beq_eq_false_iff_ne.mpr ne, Bool.false_and, Bool.and_false]
theorem show_lt {i : Int} (h : PyData.showable (.int i) = true) : i.natAbs < 2 ^ 1920 := by
  have h' : i.natAbs.log2 < 1920 := by simpa [PyData.showable] using h
  exact lt_two_pow_of_log2_lt h'
theorem ok_isp {f fn : Addr} {fd dn : FuncData} {k : Nat} (F : Fun K "_law_is_part" "_law_is_part" sIsp f fd) (Gcnt : FnOk P w K mg base CX0 k fn dn ["_law_item"] (spNum K)) (mcnt : mg "_law_is_counted" = some (.ref fn)) (kcnt : PySem.W.keepIn K (.ref fn) = true) (bcnt : Binds K dn ["_law_item"] [])
    (misinstance : mg "isinstance" = none) (mtuple : mg "tuple" = none) (mlen : mg "len" = none) {fp : Addr} {dp : FuncData} (Gpart : FnOk P w K mg base CX0 k fp dp ["_law_over", "_law_under"] (spPart K)) (mpart : mg "_law_parted" = some (.ref fp)) (kpart : PySem.W.keepIn K (.ref fp) = true) (bpart : Binds K dp ["_law_over", "_law_under"] []) : FnOk P w K mg base CX0 (k + 1) f fd ["_law_item"] (spIsp K) := by
  have scThis : FnScope ["_law_item"] ["_law_item"] (defScope sIsp) := ⟨rfl, rfl, rfl, by decide +kernel, rfl, by decide +kernel, by decide +kernel⟩
  refine F.ok scThis (fun vs H Q E h => ?_) (fun cdv A outer s H vs Q E hr h => ?_)
  · obtain ⟨v, d, rfl, _⟩ := h
    rfl
  obtain ⟨v, d, rfl, hd, sh, q0⟩ := h
  have q := q0 H (Same.refl _)
  have hu64 : (A.deeper (envOfC "_law_is_part" (defScope sIsp) s.heap.objs.size f cdv)).units + 64 < cLine := hr.units
  refine ⟨_, (pss_cons (ps_if (PW.pt (pw_or (pt_not (pt_val (pe_callB call_isi (by rfl) misinstance (by decide +kernel) (pa_cons (pv 0) (pa_cons (pe_bltn (v := .ty "tuple") (u := .type "tuple") (by rfl) mtuple (by decide +kernel) rfl) pa_nil))))) (pw_or (pt_cmpR op_ne (pe_callB call_len_seq (by rfl) mlen PySem.boot_len (pa_cons (pv 0) pa_nil)) pe_int (nomark _)) (pw_or (pt_not (pt_val (pe_call Gcnt (hr.mono (by omega)) (by rfl) mcnt kcnt bcnt .nil pass0 (pa_cons (pe_ix ix_tup (pv 0) pe_int (fun _ _ => rfl)) pa_nil)))) (pw_or1 (pt_not (pt_val (pe_call Gcnt (hr.mono (by omega)) (by rfl) mcnt kcnt bcnt .nil pass0 (pa_cons (pe_ix ix_tup (pv 0) pe_int (fun _ _ => rfl)) pa_nil)))))))))
(pss_one (ps_ret pe_bl))
pss_nil)
(pss_one (ps_ret (pe_and (pe_cmpR op_gt (pe_ix ix_tup (pv 0) pe_int (fun _ _ => rfl)) pe_int (nomark _)) (pe_one (pe_cmpR (op_eqD hu64) (pe_call Gpart (hr.mono (by omega)) (by rfl) mpart kpart bpart .nil pass0 (pa_cons (pe_ix ix_tup (pv 0) pe_int (fun _ _ => rfl)) (pa_cons (pe_ix ix_tup (pv 0) pe_int (fun _ _ => rfl)) pa_nil))) (pv 0) (nomark _))))))), ?_⟩
  have no : ∀ {d : PyData} {v : V}, Dp K H v d → kitB (tyOf d) "tuple" = some false → isFrac d = false → Q (.bl (isFrac d)) H → Q (.bl false) H := fun _ _ e q => by rw [e] at q; exact q
  cases hd with
  | int i => exact ⟨_, rfl, _, _, _, _, false, rfl, .ty _, dpTy (.int i), kit_ty kt_int_tuple, _, rfl, iteT q⟩
  | bl b => exact ⟨_, rfl, _, _, _, _, false, rfl, .ty _, dpTy (.bl b), kit_ty kt_bool_tuple, _, rfl, iteT q⟩
  | non => exact ⟨_, rfl, _, _, _, _, false, rfl, .ty _, dpTy .non, kit_ty kt_NoneType_tuple, _, rfl, iteT q⟩
  | str x => exact ⟨_, rfl, _, _, _, _, false, rfl, .ty _, dpTy (.str x), kit_ty kt_str_tuple, _, rfl, iteT q⟩
  | lst s a => exact ⟨_, rfl, _, _, _, _, false, rfl, .ty _, dpTy (.lst s a), kit_ty kt_list_tuple, _, rfl, iteT q⟩
  | @tup a xs ds sa da =>
    refine ⟨_, rfl, _, _, _, _, true, rfl, .ty _, dpTy (.tup sa da), kit_ty kt_tuple_tuple, _, rfl, iteF ?_⟩
    have le := DpAll_len da
    refine ⟨_, rfl, a, xs, rfl, .inr sa, rfl, _, rfl, ite2 (fun c => ?_) (fun c => ?_)⟩
    · have ne : ds.length ≠ 2 := fun e => by
        rw [le, e] at c
        exact absurd c (by decide)
      rw [isFrac_no ne] at q
      exact iteT q
    · have e2 : ds.length = 2 := by
        rcases Decidable.em (ds.length = 2) with e | e
        · exact e
        · exfalso
          apply c
          have : ¬ (V.int (xs.length : Int) = V.int 2) := fun z => by
            have z' := V.int.inj z
            omega
          rw [decide_eq_false this]
          rfl
      cases da with
      | nil => cases e2
      | @cons x0 xr d0 dr a0 ar =>
        cases ar with
        | nil => cases e2
        | @cons x1 xs2 d1 ds2 a1 a2 =>
          cases a2 with
          | cons _ _ => simp at e2
          | nil =>
            have i0 : atI [x0, x1] 0 = some x0 := atI_nat (j := 0) rfl
            have i1 : atI [x0, x1] 1 = some x1 := atI_nat (j := 1) rfl
            refine ⟨_, rfl, a, _, _, _, rfl, rfl, sa, i0, _, _, rfl, a0, _, rfl, ?_⟩
            cases n0 : isNum d0 with
            | false =>
              rw [isFrac_not (.inl n0)] at q
              exact iteT q
            | true =>
              refine iteF ⟨_, rfl, a, _, _, _, rfl, rfl, sa, i1, _, _, rfl, a1, _, rfl, ?_⟩
              cases n1 : isNum d1 with
              | false =>
                rw [isFrac_not (.inr n1)] at q
                exact iteT q
              | true =>
                obtain ⟨x, rfl, hx⟩ := num_of n0
                obtain ⟨y, rfl, hy⟩ := num_of n1
                cases a0
                cases a1
                refine iteF ⟨_, rfl, a, _, _, _, rfl, rfl, sa, i1, _, _, rfl, rfl, _, rfl, ?_⟩
                have q' : Q (.bl (decide (0 ≤ x) && decide (0 < y) && decide (Nat.gcd x.natAbs y.natAbs = 1))) H := q
                rw [decide_eq_true hx, Bool.true_and] at q'
                refine ite2 (fun c => ?_) (fun c => ?_)
                · have c' : 0 < y := of_decide_eq_true c
                  rw [decide_eq_true c', Bool.true_and] at q'
                  obtain ⟨m, rfl⟩ := nat_of hx
                  obtain ⟨n, rfl⟩ := nat_of hy
                  have sh' : PyData.showable (.int (m : Int)) = true ∧ PyData.showable (.int (n : Int)) = true := by simpa [PyData.showable, PyData.showableAll] using sh
                  have bn := show_lt sh'.2
                  rw [Int.natAbs_natCast] at bn
                  refine ⟨_, rfl, a, _, _, _, rfl, rfl, sa, i0, _, rfl, a, _, _, _, rfl, rfl, sa, i1, m, n, rfl, by omega, Nat.lt_of_lt_of_le bn (Nat.pow_le_pow_right (by omega) (by omega)), fun r H' s1 nr hr' => ?_⟩
                  have e := low_one (x := m) (y := n) (by omega)
                  refine ⟨_, rfl, _, _, dp_pair (.inl (.inl hr')), dp_pair (same_seqT s1 sa), rfl, rfl, ?_⟩
                  have q2 : Q (.bl (decide (0 ≤ (m : Int)) && decide (0 < (n : Int)) && decide (Nat.gcd (m : Int).natAbs (n : Int).natAbs = 1))) H' := q0 H' s1
                  rw [decide_eq_true hx, Bool.true_and, decide_eq_true c', Bool.true_and, Int.natAbs_natCast, Int.natAbs_natCast, ← e] at q2
                  exact q2
                · have c' : ¬ 0 < y := of_decide_eq_false (Bool.eq_false_iff.mpr c)
                  rw [decide_eq_false c', Bool.false_and] at q'
                  exact q'
end
end K67

set_option maxHeartbeats 8000000
namespace K67
open PySem PySem.Spec PyProof.Rows L2 Gl
section
variable {P : Program} {w : World} {K : PySem.W.Frag} {mg : Str → Option Value} {base : Heap}
/-! ### _law_bent -/
theorem DpAll_rev {H : Hp} : ∀ {vs : List V} {ds : List PyData}, DpAll K H vs ds → DpAll K H vs.reverse ds.reverse
  | _, _, .nil => .nil
  | _, _, .cons a b => by
    rw [List.reverse_cons, List.reverse_cons]
    exact DpAll_app (DpAll_rev b) (.cons a .nil)
theorem noPart {σ : L2.St} {H : Hp} {Q : Option Int → Hp → Prop} (h : Q none H) : tNoPart σ H Q := h
def BentIn : Nat → PyData → Prop
  | 0, _ => False
  | 1, d => ∃ i : Int, d = .int i ∧ i.natAbs < 2 ^ 200
  | _ + 2, d => (∃ i : Int, d = .int i ∧ i.natAbs < 2 ^ 200) ∨ ∃ i j : Int, d = .tuple [.int i, .int j] ∧ i.natAbs < 2 ^ 200 ∧ j.natAbs < 2 ^ 200
theorem BentIn.cases {n : Nat} {d : PyData} (h : BentIn (n + 1) d) : (∃ i : Int, d = .int i ∧ i.natAbs < 2 ^ 200) ∨ ((∀ i : Int, i.natAbs < 2 ^ 200 → BentIn n (.int i)) ∧ ∃ i j : Int, d = .tuple [.int i, .int j] ∧ i.natAbs < 2 ^ 200 ∧ j.natAbs < 2 ^ 200) := by
  match n, h with
  | 0, h => exact .inl h
  | 1, h =>
    rcases h with h | h
    · exact .inl h
    · exact .inr ⟨fun i hi => ⟨i, rfl, hi⟩, h⟩
  | n + 2, h =>
    rcases h with h | h
    · exact .inl h
    · exact .inr ⟨fun i hi => .inl ⟨i, rfl, hi⟩, h⟩
def Out (n : Nat) (d : PyData) : Prop := PyData.showable d = true ∧ d.depth ≤ 5 * n ∧ sz d ≤ 10000 * n
def spBent (K : PySem.W.Frag) (n : Nat) : Sp := fun vs H Q _ => ∃ f B x d l, vs = [.ref f, x] ∧ Feed H f B l ∧ B + n * 20 < 2 ^ 40 ∧ Dp K (off f H) x d ∧ BentIn n d ∧ ∀ H' v e, Mv f H H' → Feed H' f (B + n * 10) l → Dp K (off f H') v e → Out n e → Q v H'
def menu : List PyData := [.none, .str "", .str "row", .str "ann", .int 0, .int (-1), .bool true, .int (10 ^ 40), .tuple [], .list [], .tuple [.int 0], .tuple [.tuple [.int 0, .int 1]], .int 13, .str "A"]
def fineB (d : PyData) : Bool := PyData.showable d && decide (d.depth ≤ 5) && decide (sz d ≤ 10000)
theorem out_menu (n : Nat) : ∀ d ∈ menu, Out (n + 1) d := by
  have h : menu.all fineB = true := by decide +kernel
  intro d hd
  have h' := List.all_eq_true.mp h d hd
  have h2 : (PyData.showable d = true ∧ d.depth ≤ 5) ∧ sz d ≤ 10000 := by simpa [fineB] using h'
  exact ⟨h2.1.1, by omega, by omega⟩
theorem show_int {i : Int} (h : i.natAbs < 2 ^ 201) : PyData.showable (.int i) = true := by
  simp only [PyData.showable, decide_eq_true_eq]
  exact Nat.lt_of_lt_of_le (PySem.Flt.log2_lt_of (by omega) h) (by omega)
theorem out_int {i : Int} (n : Nat) (h : i.natAbs < 2 ^ 201) : Out (n + 1) (.int i) := ⟨show_int h, by simp only [PyData.depth]; omega, by simp only [sz]; omega⟩
def IntD (d : PyData) : Prop := ∃ i : Int, d = .int i ∧ i.natAbs < 2 ^ 200
theorem seq_of {M D : Nat} : ∀ {ds : List PyData}, (∀ d ∈ ds, PyData.showable d = true ∧ d.depth ≤ D ∧ sz d ≤ M) → PyData.showableAll ds = true ∧ PyData.depthAll ds ≤ D ∧ szAll ds ≤ ds.length * (M + 2)
  | [], _ => by refine ⟨by simp only [PyData.showableAll], by simp only [PyData.depthAll]; omega, by simp only [szAll]; omega⟩
  | d :: r, h => by
    obtain ⟨a1, a2, a3⟩ := h d List.mem_cons_self
    obtain ⟨b1, b2, b3⟩ := seq_of (ds := r) fun e he => h e (List.mem_cons_of_mem _ he)
    refine ⟨by simp only [PyData.showableAll, a1, b1, Bool.and_self], by simp only [PyData.depthAll]; omega, ?_⟩
    have e : (d :: r).length * (M + 2) = r.length * (M + 2) + (M + 2) := by rw [List.length_cons, Nat.add_mul, Nat.one_mul]
    simp only [szAll]
    rw [e]
    omega
theorem out_ints {ds : List PyData} (n : Nat) (h : ∀ d ∈ ds, IntD d) (hl : ds.length ≤ 4) : Out (n + 1) (.tuple ds) ∧ Out (n + 1) (.list ds) := by
  obtain ⟨b1, b2, b3⟩ := seq_of (M := 1921) (D := 0) (ds := ds) fun d hd => by
    obtain ⟨i, rfl, hi⟩ := h d hd
    exact ⟨show_int (by omega), by simp only [PyData.depth]; omega, by simp only [sz]; omega⟩
  have b4 : ds.length * (1921 + 2) ≤ 4 * (1921 + 2) := Nat.mul_le_mul_right _ hl
  refine ⟨⟨?_, ?_, ?_⟩, ⟨?_, ?_, ?_⟩⟩
  · simpa only [PyData.showable] using b1
  · simp only [PyData.depth]; omega
  · simp only [sz]; omega
  · simpa only [PyData.showable] using b1
  · simp only [PyData.depth]; omega
  · simp only [sz]; omega
theorem out_mix {ds : List PyData} {e : PyData} {n : Nat} (h : ∀ d ∈ ds, IntD d ∨ d = e) (hl : ds.length ≤ 2) (he : Out n e) (hn : 1 ≤ n) (one : szAll ds ≤ sz e + 2 + 1923) : Out (n + 1) (.tuple ds) := by
  obtain ⟨h1, h2, h3⟩ := he
  obtain ⟨b1, b2, b3⟩ := seq_of (M := 1921 + sz e) (D := 5 * n) (ds := ds) fun d hd => by
    rcases h d hd with ⟨i, rfl, hi⟩ | rfl
    · exact ⟨show_int (by omega), by simp only [PyData.depth]; omega, by simp only [sz]; omega⟩
    · exact ⟨h1, h2, by omega⟩
  refine ⟨?_, ?_, ?_⟩
  · simpa only [PyData.showable] using b1
  · simp only [PyData.depth]; omega
  · simp only [sz]; omega
abbrev sBent : Stmt := topS 12
theorem ok_bent {f fn fp : Addr} {fd dn dp : FuncData} {k n : Nat} (F : Fun K "_law_bent" "_law_bent" sBent f fd) (Gdraw : FnOk P w K mg base CX0 k fn dn ["_law_feed_here", "_law_size"] spDraw) (mdraw : mg "_law_draw" = some (.ref fn)) (kdraw : PySem.W.keepIn K (.ref fn) = true)
    (bdraw : Binds K dn ["_law_feed_here", "_law_size"] []) (Gpick : FnOk P w K mg base CX0 k fp dp ["_law_feed_here", "_law_some"] (spPick K)) (mpick : mg "_law_pick" = some (.ref fp)) (kpick : PySem.W.keepIn K (.ref fp) = true) (bpick : Binds K dp ["_law_feed_here", "_law_some"] [])
    (Gbent : FnOk P w K mg base CX0 k f fd ["_law_feed_here", "_law_item"] (spBent K n)) (mbent : mg "_law_bent" = some (.ref f)) (kbent : PySem.W.keepIn K (.ref f) = true) (bbent : Binds K fd ["_law_feed_here", "_law_item"] [])
    (misinstance : mg "isinstance" = none) (mtuple : mg "tuple" = none) (mint : mg "int" = none) (mbool : mg "bool" = none) (mlen : mg "len" = none) (mlist : mg "list" = none) : FnOk P w K mg base CX0 (k + 1) f fd ["_law_feed_here", "_law_item"] (spBent K (n + 1)) := by
  have scThis : FnScope ["_law_feed_here", "_law_item", "_law_n", "_law_way"] ["_law_feed_here", "_law_item"] (defScope sBent) := ⟨rfl, rfl, rfl, by decide +kernel, rfl, by decide +kernel, by decide +kernel⟩
  refine F.ok scThis (fun vs H Q E h => ?_) (fun cdv A outer s H vs Q E hr h => ?_)
  · obtain ⟨f, B, x, d, l, rfl, _⟩ := h
    rfl
  obtain ⟨g, B, x, d, sl0, rfl, hf, hB, hd, hin, q⟩ := h
  have hu64 : (A.deeper (envOfC "_law_bent" (defScope sBent) s.heap.objs.size f cdv)).units + 64 < cLine := hr.units
  refine ⟨_, (pss_cons (ps_if (PW.pt (pw_and (pt_val (pe_callB call_isi (by rfl) misinstance (by decide +kernel) (pa_cons (pv 1) (pa_cons (pe_bltn (v := .ty "tuple") (u := .type "tuple") (by rfl) mtuple (by decide +kernel) rfl) pa_nil)))) (pw_and (pt_cmpR (op_neD hu64) (pv 1) (pe_tup pa_nil) (nomark _)) (pw_and1 (pt_cmpR op_gt (pe_call Gdraw (hr.mono (by omega)) (by rfl) mdraw kdraw bdraw .nil pass0 (pa_cons (pv 0) (pa_cons pe_int pa_nil))) pe_int (nomark _))))))
(pss_cons (ps_par (i := 2) (j := 3) rfl scThis.nd rfl rfl (by decide) rfl rfl (pa_cons (pe_call Gdraw (hr.mono (by omega)) (by rfl) mdraw kdraw bdraw .nil pass0 (pa_cons (pv 0) (pa_cons (pe_callB call_len_seq (by rfl) mlen PySem.boot_len (pa_cons (pv 1) pa_nil)) pa_nil))) (pa_cons (pe_call Gdraw (hr.mono (by omega)) (by rfl) mdraw kdraw bdraw .nil pass0 (pa_cons (pv 0) (pa_cons pe_int pa_nil))) pa_nil)) (by rfl))
(pss_cons (ps_if (pt_cmpR op_lt (pv 3) pe_int (nomark _))
(pss_one (ps_ret (pe_ix ix_list (pe_lst (pa_cons (pe_op op_catA (pe_slice sl_tupA (pv 1) po_none (po_some (pv 2))) (pe_slice sl_tupA (pv 1) (po_some (pe_op op_add (pv 2) pe_int)) po_none)) (pa_cons (pe_op op_catA (pe_op op_catA (pe_slice sl_tupA (pv 1) po_none (po_some (pv 2))) (pe_slice sl_tupA (pv 1) (po_some (pv 2)) (po_some (pe_op op_add (pv 2) pe_int)))) (pe_slice sl_tupA (pv 1) (po_some (pv 2)) po_none)) (pa_cons (pe_revT (pv 1)) (pa_cons (pe_callTy call_list_of (by rfl) mlist (by decide +kernel) (pa_cons (pv 1) pa_nil)) pa_nil))))) (pv 3) (fun _ _ => rfl))))
pss_nil)
(pss_one (ps_ret (pe_op op_catA (pe_op op_catA (pe_slice sl_tupA (pv 1) po_none (po_some (pv 2))) (pe_tup (pa_cons (pe_call Gbent (hr.mono (by omega)) (by rfl) mbent kbent bbent .nil pass0 (pa_cons (pv 0) (pa_cons (pe_ix ix_tup (pv 1) (pv 2) (fun _ _ => rfl)) pa_nil))) pa_nil))) (pe_slice sl_tupA (pv 1) (po_some (pe_op op_add (pv 2) pe_int)) po_none))))))
pss_nil)
(pss_cons (ps_if (PW.pt (pw_and (pt_val (pe_callB call_isi (by rfl) misinstance (by decide +kernel) (pa_cons (pv 1) (pa_cons (pe_bltn (v := .ty "int") (u := .type "int") (by rfl) mint (by decide +kernel) rfl) pa_nil)))) (pw_and (pt_not (pt_val (pe_callB call_isi (by rfl) misinstance (by decide +kernel) (pa_cons (pv 1) (pa_cons (pe_bltn (v := .ty "bool") (u := .type "bool") (by rfl) mbool (by decide +kernel) rfl) pa_nil))))) (pw_and1 (pt_cmpR op_gt (pe_call Gdraw (hr.mono (by omega)) (by rfl) mdraw kdraw bdraw .nil pass0 (pa_cons (pv 0) (pa_cons pe_int pa_nil))) pe_int (nomark _))))))
(pss_one (ps_ret (pe_op op_add (pv 1) (pe_ix ix_list (pe_lst (pa_cons pe_int (pa_cons (pe_un un_neg pe_int) (pa_cons pe_int pa_nil)))) (pe_call Gdraw (hr.mono (by omega)) (by rfl) mdraw kdraw bdraw .nil pass0 (pa_cons (pv 0) (pa_cons pe_int pa_nil))) (fun _ _ => rfl)))))
pss_nil)
(pss_one (ps_ret (pe_call Gpick (hr.mono (by omega)) (by rfl) mpick kpick bpick .nil pass0 (pa_cons (pv 0) (pa_cons (pe_lst (pa_cons pe_non (pa_cons pe_str (pa_cons pe_str (pa_cons pe_str (pa_cons pe_int (pa_cons (pe_un un_neg pe_int) (pa_cons pe_bl (pa_cons (pe_op op_pow pe_int pe_int) (pa_cons (pe_tup pa_nil) (pa_cons (pe_lst pa_nil) (pa_cons (pe_tup (pa_cons pe_int pa_nil)) (pa_cons (pe_tup (pa_cons (pe_tup (pa_cons pe_int (pa_cons pe_int pa_nil))) pa_nil)) (pa_cons pe_int (pa_cons pe_str pa_nil))))))))))))))) pa_nil))))))), ?_⟩
  have fo := hf.fo
  rcases hin.cases with ⟨i, rfl, hi⟩ | ⟨rec, i, j, rfl, hi, hj⟩
  · -- an int
    cases hd
    refine ⟨_, rfl, _, _, _, _, false, rfl, .ty _, dpTy (.int i), kit_ty kt_int_tuple, _, rfl, iteF ?_⟩
    refine ⟨_, rfl, _, _, _, _, true, rfl, .ty _, dpTy (.int i), kit_ty kt_int_int, _, rfl, iteT ?_⟩
    refine ⟨_, rfl, _, _, _, _, false, rfl, .ty _, dpTy (.int i), kit_ty kt_int_bool, _, rfl, iteT ?_⟩
    refine ⟨_, rfl, g, _, B, _, rfl, hf, by omega, by decide, by decide, fun H1 r1 m1 f1 r10 r11 => ?_⟩
    refine ⟨_, _, rfl, rfl, _, rfl, ite2 (fun c => ?_) (fun c => ?_)⟩
    · refine ⟨_, rfl, _, rfl, (by show 3 ≤ sizeLine; decide), fun l nl => ?_⟩
      have sl := same_new nl (.lst [.int 1, .int (-1), .int 2])
      refine ⟨_, rfl, g, _, B + 1, _, rfl, f1.same sl, by omega, by decide, by decide, fun H3 r3 m3 f3 r30 r31 => ?_⟩
      obtain ⟨v, e1, e2⟩ := at_mem (xs := [.int 1, .int (-1), .int 2]) r30 (by show r3 < 3; omega)
      refine ⟨l, _, r3, v, rfl, rfl, .inl (.inl (m3 l _ (f1.fo.ne nl) upd_same)), e1, ?_⟩
      have mm : Mv g H H3 := m1.trans ((Mv.same sl).trans m3)
      simp only [List.mem_cons, List.not_mem_nil, or_false] at e2
      rcases e2 with rfl | rfl | rfl
      · exact ⟨_, _, rfl, rfl, q H3 _ _ mm (f3.mono (by omega)) (.int _) (out_int n (by omega))⟩
      · exact ⟨_, _, rfl, rfl, q H3 _ _ mm (f3.mono (by omega)) (.int _) (out_int n (by omega))⟩
      · exact ⟨_, _, rfl, rfl, q H3 _ _ mm (f3.mono (by omega)) (.int _) (out_int n (by omega))⟩
    · have fo' := f1.fo
      -- the menu
      refine ⟨_, rfl, _, rfl, _, _, rfl, rfl, ⟨by decide, by decide, by decide⟩, Nat.zero_le _, fun t1 n1 => ?_⟩
      have a1 := newTup (K := K) fo' n1 .nil
      have s1 := same_new n1 (.tup [])
      have fo1 := fo'.same s1
      refine ⟨Nat.zero_le _, fun t2 n2 => ?_⟩
      have a2 := newLst (K := K) fo1 n2 .nil
      have s2 := same_new n2 (.lst [])
      have fo2 := fo1.same s2
      refine ⟨(by show 1 ≤ sizeLine; decide), fun t3 n3 => ?_⟩
      have a3 := newTup (K := K) fo2 n3 (.cons (.int 0) .nil)
      have s3 := same_new n3 (.tup [.int 0])
      have fo3 := fo2.same s3
      refine ⟨(by show 2 ≤ sizeLine; decide), fun t4 n4 => ?_⟩
      have a4 := newTup (K := K) fo3 n4 (.cons (.int 0) (.cons (.int 1) .nil))
      have s4 := same_new n4 (.tup [.int 0, .int 1])
      have fo4 := fo3.same s4
      refine ⟨(by show 1 ≤ sizeLine; decide), fun t5 n5 => ?_⟩
      have a5 := newTup (K := K) fo4 n5 (.cons a4 .nil)
      have s5 := same_new n5 (.tup [.ref t4])
      have fo5 := fo4.same s5
      refine ⟨(by show 14 ≤ sizeLine; decide), fun L nL => ?_⟩
      have aL := newLst (K := K) (ds := menu) fo5 nL (.cons .non (.cons (.str _) (.cons (.str _) (.cons (.str _) (.cons (.int _) (.cons (.int _) (.cons (.bl _) (.cons (.int _)
        (.cons (dpSame (off_mono (s2.trans (s3.trans (s4.trans s5)))) _ _ a1) (.cons (dpSame (off_mono (s3.trans (s4.trans s5))) _ _ a2) (.cons (dpSame (off_mono (s4.trans s5)) _ _ a3) (.cons a5 (.cons (.int _) (.cons (.str _) .nil))))))))))))))
      have sL := fun o => s1.trans (s2.trans (s3.trans (s4.trans (s5.trans (same_new nL o)))))
      refine ⟨g, B + 1, .ref L, menu, _, rfl, f1.same (sL _), by omega, aL, by decide, by decide, fun H' v d m f' dv mem => ?_⟩
      exact q H' v d (m1.trans ((Mv.same (sL _)).trans m)) (f'.mono (by omega)) dv (out_menu n d mem)
  · -- a pair
    refine ⟨_, rfl, _, _, _, _, true, rfl, .ty _, dpTy (offD hd), kit_ty kt_tuple_tuple, _, rfl, iteT ?_⟩
    refine ⟨_, rfl, Nat.zero_le _, fun t0 n0 => ?_⟩
    have s0 := same_new n0 (.tup [])
    refine ⟨_, _, dpSame s0 _ _ (offD hd), .tup (.inl (.inl upd_same)) .nil, rfl, rfl, _, rfl, iteT ?_⟩
    refine ⟨_, rfl, g, _, B, _, rfl, hf.same s0, by omega, by decide, by decide, fun H1 r1 m1 f1 r10 r11 => ?_⟩
    have m01 : Mv g H H1 := (Mv.same s0).trans m1
    have hd1 := dpSame m01.off _ _ hd
    refine ⟨_, _, rfl, rfl, _, rfl, ite2 (fun c => ?_) (fun c => ?_)⟩
    · obtain ⟨a, xs, rfl, sa, da⟩ := dpTup hd1
      have lx := DpAll_len da
      refine ⟨_, rfl, _, rfl, a, xs, rfl, .inr (offT sa), g, _, B + 1, _, rfl, f1, by omega, by rw [lx]; exact (by decide : (0 : Int) < 2), by rw [lx]; exact (by decide : (2 : Int) < 2 ^ 60), fun H2 rn m2 f2 b0 b1 => ?_⟩
      refine ⟨_, rfl, g, _, B + 2, _, rfl, f2, by omega, by decide, by decide, fun H3 rw m3 f3 c0 c1 => ?_⟩
      rw [lx] at b1
      obtain ⟨nn, rfl⟩ := nat_of b0
      have n2 : nn < 2 := by have : (nn : Int) < ((2 : Nat) : Int) := b1; omega
      have fo3 := f3.fo
      have m03 : Mv g H H3 := m01.trans (m2.trans m3)
      have hd3 := dpSame (m2.trans m3).off _ _ hd1
      have id : ∀ d ∈ [PyData.int i, PyData.int j], IntD d := by
        intro d hd
        simp only [List.mem_cons, List.not_mem_nil, or_false] at hd
        rcases hd with rfl | rfl
        · exact ⟨i, rfl, hi⟩
        · exact ⟨j, rfl, hj⟩
      refine ⟨_, _, rfl, ?_⟩
      refine ⟨_, rfl, _, _, rfl, rfl, _, rfl, ite2 (fun c2 => ?_) (fun c2 => ?_)⟩
      · -- one of four
        refine ⟨_, rfl, _, rfl, _, rfl, ?_⟩
-- item[:n] + item[n + 1:]
        refine dSlice fo3 hd3 fun vA1 H4 s4 d4 => ?_
        have fo4 := fo3.same s4
        have hd4 := dpSame (off_mono s4) _ _ hd3
        refine ⟨_, rfl, _, rfl, _, _, rfl, rfl, _, rfl, ?_⟩
        refine noPart ?_
        refine dSlice fo4 hd4 fun vA2 H5 s5 d5 => ?_
        have fo5 := fo4.same s5
        have hd5 := dpSame (off_mono s5) _ _ hd4
        rw [cut_to] at d4
        have e1 : ((nn : Int) + 1) = ((nn + 1 : Nat) : Int) := rfl
        rw [e1, cut_from] at d5
        refine dCat fo5 (dpSame (off_mono s5) _ _ d4) d5 (by rw [List.length_take, List.length_drop]; show min nn 2 + (2 - (nn + 1)) ≤ 100000; omega) fun vA H6 s6 dA => ?_
        have fo6 := fo5.same s6
        have hd6 := dpSame (off_mono s6) _ _ hd5
        -- item[:n] + item[n:n + 1] + item[n:]
        refine ⟨_, rfl, _, rfl, _, rfl, ?_⟩
        refine dSlice fo6 hd6 fun vB1 H7 s7 d7 => ?_
        have fo7 := fo6.same s7
        have hd7 := dpSame (off_mono s7) _ _ hd6
        refine ⟨_, rfl, _, rfl, _, rfl, _, rfl, _, _, rfl, rfl, _, rfl, ?_⟩
        refine dSlice fo7 hd7 fun vB2 H8 s8 d8 => ?_
        have fo8 := fo7.same s8
        have hd8 := dpSame (off_mono s8) _ _ hd7
        rw [cut_to] at d7
        rw [e1, cut_mid] at d8
        refine dCat fo8 (dpSame (off_mono s8) _ _ d7) d8 (by rw [List.length_take, List.length_take, List.length_drop]; show min nn 2 + min (nn + 1 - nn) (2 - nn) ≤ 100000; omega) fun vB3 H9 s9 d9 => ?_
        have fo9 := fo8.same s9
        have hd9 := dpSame (off_mono s9) _ _ hd8
        refine ⟨_, rfl, _, rfl, _, rfl, ?_⟩
        refine noPart ?_
        refine dSlice fo9 hd9 fun vB4 H10 s10 d10 => ?_
        have fo10 := fo9.same s10
        have hd10 := dpSame (off_mono s10) _ _ hd9
        rw [cut_from] at d10
        refine dCat fo10 (dpSame (off_mono s10) _ _ d9) d10 (by rw [List.length_append, List.length_take, List.length_take, List.length_drop]; show min nn 2 + min (nn + 1 - nn) (2 - nn) + (2 - nn) ≤ 100000; omega) fun vB H11 s11 dB => ?_
        have fo11 := fo10.same s11
        have hd11 := dpSame (off_mono s11) _ _ hd10
        -- item[::-1], list(item)
        obtain ⟨a', xs', ea, sa', da'⟩ := dpTup hd11
        cases ea
        refine ⟨_, rfl, a, xs', rfl, offT sa', fun pC nC => ?_⟩
        have dC := newTup fo11 nC (DpAll_rev da')
        have s12 := same_new nC (.tup xs'.reverse)
        have fo12 := fo11.same s12
        have hd12 := dpSame (off_mono s12) _ _ hd11
        have sa12 := same_seqT (off_mono s12) sa'
        have da12 := dpSameAll (off_mono s12) _ _ da'
        refine ⟨_, rfl, a, xs', rfl, .inr (offT sa12), fun pD nD => ?_⟩
        have dD := newLst fo12 nD da12
        have s13 := same_new nD (.lst xs')
        have fo13 := fo12.same s13
        refine ⟨(by show 4 ≤ sizeLine; decide), fun L nL => ?_⟩
        have u11 := s12.trans s13
        have u6 := s7.trans (s8.trans (s9.trans (s10.trans (s11.trans u11))))
        have dL := newLst fo13 nL (.cons (dpSame (off_mono u6) _ _ dA) (.cons (dpSame (off_mono u11) _ _ dB) (.cons (dpSame (off_mono s13) _ _ dC) (.cons dD .nil))))
        have u3 := fun o => s4.trans (s5.trans (s6.trans (u6.trans (same_new nL o))))
        have hway : ∃ w' : Nat, rw = (w' : Int) ∧ w' < 4 := by
          obtain ⟨w', rfl⟩ := nat_of c0
          have : (w' : Int) < 4 := of_decide_eq_true c2
          exact ⟨w', rfl, by omega⟩
        obtain ⟨aL, xL, eL, sL, dLL⟩ := dpLst dL
        cases eL
        obtain ⟨v, d, e2, dv, mem⟩ := at_data dLL c0 (by show rw < 4; obtain ⟨w', rfl, h⟩ := hway; omega)
        refine ⟨_, rfl, L, _, rw, v, rfl, rfl, offL sL, e2, ?_⟩
        refine q _ v d (m03.trans (Mv.same (u3 _))) ((f3.same (u3 _)).mono (by omega)) dv ?_
        simp only [List.mem_cons, List.not_mem_nil, or_false] at mem
        have sub1 : ∀ (l : List PyData), (∀ d ∈ l, d ∈ [PyData.int i, PyData.int j]) → ∀ d ∈ l, IntD d := fun l h d hd => id d (h d hd)
        rcases mem with rfl | rfl | rfl | rfl
        · refine (out_ints n (fun d hd => ?_) ?_).1
          · rcases List.mem_append.mp hd with h | h
            · exact id d (List.mem_of_mem_take h)
            · exact id d (List.mem_of_mem_drop h)
          · rw [List.length_append, List.length_take, List.length_drop]; show min nn 2 + (2 - (nn + 1)) ≤ 4; omega
        · refine (out_ints n (fun d hd => ?_) ?_).1
          · rcases List.mem_append.mp hd with h | h
            · rcases List.mem_append.mp h with h | h
              · exact id d (List.mem_of_mem_take h)
              · exact id d (List.mem_of_mem_drop (List.mem_of_mem_take h))
            · exact id d (List.mem_of_mem_drop h)
          · rw [List.length_append, List.length_append, List.length_take, List.length_take, List.length_drop]; show min nn 2 + min (nn + 1 - nn) (2 - nn) + (2 - nn) ≤ 4; omega
        · refine (out_ints n (fun d hd => ?_) ?_).1
          · exact id d (List.mem_reverse.mp hd)
          · rw [List.length_reverse]; show 2 ≤ 4; omega
        · exact (out_ints n id (by show 2 ≤ 4; omega)).2
      · -- one of the two bent
        have n1 : 1 ≤ n := by
          have h := rec 0 (by decide)
          cases n with
          | zero => exact False.elim h
          | succ n => omega
        refine ⟨_, rfl, _, rfl, _, rfl, ?_⟩
        refine dSlice fo3 hd3 fun v4 H4 s4 d4 => ?_
        have fo4 := fo3.same s4
        have hd4 := dpSame (off_mono s4) _ _ hd3
        rw [cut_to] at d4
        obtain ⟨a', xs4, ea, sa4, da4⟩ := dpTup hd4
        cases ea
        obtain ⟨v, d, e2, dv, mem⟩ := at_data da4 b0 (by show (nn : Int) < 2; omega)
        obtain ⟨z, rfl, hz⟩ := id d mem
        refine ⟨_, rfl, _, rfl, _, rfl, a, _, _, v, rfl, rfl, offT sa4, e2, ?_⟩
        refine ⟨g, B + 3, v, .int z, _, rfl, f3.same s4, by omega, dv, rec z hz, fun H5 v5 e m5 f5 dv5 out5 => ?_⟩
        have fo5 := f5.fo
        have hd5 := dpSame m5.off _ _ hd4
        have d45 := dpSame m5.off _ _ d4
        refine ⟨(by show 1 ≤ sizeLine; decide), fun t nt => ?_⟩
        have dT := newTup fo5 nt (.cons dv5 .nil)
        have s6 := same_new nt (.tup [v5])
        have fo6 := fo5.same s6
        have hd6 := dpSame (off_mono s6) _ _ hd5
        refine dCat fo6 (dpSame (off_mono s6) _ _ d45) dT (by rw [List.length_take]; show min nn 2 + 1 ≤ 100000; omega) fun v7 H7 s7 d7 => ?_
        have fo7 := fo6.same s7
        have hd7 := dpSame (off_mono s7) _ _ hd6
        refine ⟨_, rfl, _, rfl, _, _, rfl, rfl, _, rfl, ?_⟩
        refine noPart ?_
        refine dSlice fo7 hd7 fun v8 H8 s8 d8 => ?_
        have fo8 := fo7.same s8
        have e1 : ((nn : Int) + 1) = ((nn + 1 : Nat) : Int) := rfl
        rw [e1, cut_from] at d8
        refine dCat fo8 (dpSame (off_mono s8) _ _ d7) d8 (by rw [List.length_append, List.length_take, List.length_drop]; show min nn 2 + 1 + (2 - (nn + 1)) ≤ 100000; omega) fun v9 H9 s9 d9 => ?_
        have u := s6.trans (s7.trans (s8.trans s9))
        refine q _ _ _ (m03.trans ((Mv.same s4).trans (m5.trans (Mv.same u)))) ((f5.same u).mono (by omega)) d9 ?_
        refine out_mix (e := e) (fun d hd => ?_) ?_ out5 n1 ?_
        · rcases List.mem_append.mp hd with h | h
          · rcases List.mem_append.mp h with h | h
            · exact .inl (id d (List.mem_of_mem_take h))
            · exact .inr (List.mem_singleton.mp h)
          · exact .inl (id d (List.mem_of_mem_drop h))
        · rw [List.length_append, List.length_append, List.length_take, List.length_drop]; show min nn 2 + 1 + (2 - (nn + 1)) ≤ 2; omega
        · have h01 : nn = 0 ∨ nn = 1 := by omega
          rcases h01 with rfl | rfl
          · simp [szAll, sz]
          · simp [szAll, sz]; omega
    · have fo' := f1.fo
      refine ⟨_, rfl, _, _, _, _, false, rfl, .ty _, dpTy (offD hd1), kit_ty kt_tuple_int, _, rfl, iteF ?_⟩
      -- the menu
      refine ⟨_, rfl, _, rfl, _, _, rfl, rfl, ⟨by decide, by decide, by decide⟩, Nat.zero_le _, fun t1 n1 => ?_⟩
      have a1 := newTup (K := K) fo' n1 .nil
      have s1 := same_new n1 (.tup [])
      have fo1 := fo'.same s1
      refine ⟨Nat.zero_le _, fun t2 n2 => ?_⟩
      have a2 := newLst (K := K) fo1 n2 .nil
      have s2 := same_new n2 (.lst [])
      have fo2 := fo1.same s2
      refine ⟨(by show 1 ≤ sizeLine; decide), fun t3 n3 => ?_⟩
      have a3 := newTup (K := K) fo2 n3 (.cons (.int 0) .nil)
      have s3 := same_new n3 (.tup [.int 0])
      have fo3 := fo2.same s3
      refine ⟨(by show 2 ≤ sizeLine; decide), fun t4 n4 => ?_⟩
      have a4 := newTup (K := K) fo3 n4 (.cons (.int 0) (.cons (.int 1) .nil))
      have s4 := same_new n4 (.tup [.int 0, .int 1])
      have fo4 := fo3.same s4
      refine ⟨(by show 1 ≤ sizeLine; decide), fun t5 n5 => ?_⟩
      have a5 := newTup (K := K) fo4 n5 (.cons a4 .nil)
      have s5 := same_new n5 (.tup [.ref t4])
      have fo5 := fo4.same s5
      refine ⟨(by show 14 ≤ sizeLine; decide), fun L nL => ?_⟩
      have aL := newLst (K := K) (ds := menu) fo5 nL (.cons .non (.cons (.str _) (.cons (.str _) (.cons (.str _) (.cons (.int _) (.cons (.int _) (.cons (.bl _) (.cons (.int _)
        (.cons (dpSame (off_mono (s2.trans (s3.trans (s4.trans s5)))) _ _ a1) (.cons (dpSame (off_mono (s3.trans (s4.trans s5))) _ _ a2) (.cons (dpSame (off_mono (s4.trans s5)) _ _ a3) (.cons a5 (.cons (.int _) (.cons (.str _) .nil))))))))))))))
      have sL := fun o => s1.trans (s2.trans (s3.trans (s4.trans (s5.trans (same_new nL o)))))
      refine ⟨g, B + 1, .ref L, menu, _, rfl, f1.same (sL _), by omega, aL, by decide, by decide, fun H' v d m f' dv mem => ?_⟩
      exact q H' v d (m01.trans ((Mv.same (sL _)).trans m)) (f'.mono (by omega)) dv (out_menu n d mem)
end
end K67

set_option maxHeartbeats 4000000
namespace K67
open PySem PySem.Spec PyProof.Rows L2 Gl
structure Good (p : Nat × Nat) : Prop where
  a : p.1 < 2 ^ 64
  b : p.2 < 2 ^ 64
  c : 0 < p.2
  g : Nat.gcd p.1 p.2 = 1
theorem good_low {a b : Nat} (ha : a < 2 ^ 64) (hb : b < 2 ^ 64) (h0 : 0 < b) : Good (low (a, b)) := by
  have g1 := gcd_pos (a := a) h0
  refine ⟨Nat.lt_of_le_of_lt (Nat.div_le_self _ _) ha, Nat.lt_of_le_of_lt (Nat.div_le_self _ _) hb, Nat.div_pos (Nat.gcd_le_right _ h0) g1, ?_⟩
  exact Nat.gcd_div_gcd_div_gcd_of_pos_right h0
theorem low_low {q p : Nat × Nat} (hq : 0 < q.2) (hp : 0 < p.2) : low ((low q).1 * p.1, (low q).2 * p.2) = low (q.1 * p.1, q.2 * p.2) := by
  obtain ⟨x, y⟩ := q
  obtain ⟨c, d⟩ := p
  have g1 := gcd_pos (a := x) hq
  obtain ⟨a, ha⟩ := Nat.gcd_dvd_left x y
  obtain ⟨b, hb⟩ := Nat.gcd_dvd_right x y
  have ea : x / Nat.gcd x y = a := Nat.div_eq_of_eq_mul_right g1 ha
  have eb : y / Nat.gcd x y = b := Nat.div_eq_of_eq_mul_right g1 hb
  show low (x / Nat.gcd x y * c, y / Nat.gcd x y * d) = low (x * c, y * d)
  rw [ea, eb]
  have e1 : x * c = Nat.gcd x y * (a * c) := by rw [← Nat.mul_assoc, ← ha]
  have e2 : y * d = Nat.gcd x y * (b * d) := by rw [← Nat.mul_assoc, ← hb]
  unfold low
  simp only
  rw [e1, e2, Nat.gcd_mul_left, Nat.mul_div_mul_left _ _ g1, Nat.mul_div_mul_left _ _ g1]
theorem low_less {x y : Nat} (h : x ≤ y) (g : Nat.gcd x y = 1) : low (y - x, y) = (y - x, y) := by
  have e : Nat.gcd (y - x) y = 1 := by
    have h1 : Nat.gcd (y - x) y = Nat.gcd (y - x) x := by
      have : y = x + (y - x) := by omega
      calc Nat.gcd (y - x) y = Nat.gcd (y - x) (x + (y - x)) := by rw [← this]
        _ = Nat.gcd (y - x) x := Nat.gcd_add_self_right _ _
    have h2 : Nat.gcd x y = Nat.gcd x (y - x) := by
      have : y = (y - x) + x := by omega
      calc Nat.gcd x y = Nat.gcd x ((y - x) + x) := by rw [← this]
        _ = Nat.gcd x (y - x) := Nat.gcd_add_self_right _ _
    rw [h1, Nat.gcd_comm, ← h2]
    exact g
  unfold low
  simp only
  rw [e, Nat.div_one, Nat.div_one]
theorem low_prd_lt {ps : List (Nat × Nat)} (h : ∀ p ∈ ps, Good p) (n : Nat) (hl : ps.length ≤ n) : (low (prd ps)).1 < 2 ^ (64 * n + 1) ∧ (low (prd ps)).2 < 2 ^ (64 * n + 1) ∧ 0 < (low (prd ps)).2 ∧ 0 < (prd ps).2 := by
  obtain ⟨c1, c2, c3⟩ := prd_lt ps fun p hp => ⟨(h p hp).a, (h p hp).b, (h p hp).c⟩
  have mono : 2 ^ (64 * ps.length + 1) ≤ 2 ^ (64 * n + 1) := Nat.pow_le_pow_right (by omega) (by omega)
  have g1 := gcd_pos (a := (prd ps).1) c3
  exact ⟨Nat.lt_of_le_of_lt (Nat.div_le_self _ _) (Nat.lt_of_lt_of_le c1 mono), Nat.lt_of_le_of_lt (Nat.div_le_self _ _) (Nat.lt_of_lt_of_le c2 mono), Nat.div_pos (Nat.gcd_le_right _ c3) g1, c3⟩
theorem low_step {ps : List (Nat × Nat)} {p : Nat × Nat} (h : ∀ q ∈ ps, Good q) (hp : Good p) : low ((low (prd ps)).1 * p.1, (low (prd ps)).2 * p.2) = low (prd (ps ++ [p])) := by
  rw [prd_app]
  exact low_low (low_prd_lt h ps.length (Nat.le_refl _)).2.2.2 hp.c
end K67

set_option maxHeartbeats 8000000
namespace K67
open PySem PySem.Spec PyProof.Rows L2 Gl
theorem Feed.noTup {H : Hp} {f l : Addr} {B : Nat} (F : Feed H f B l) : ∀ xs, H f ≠ some (.tup xs) := fun xs e => by
  obtain ⟨ns, sp, ov, ak, h, b⟩ := F
  rw [h.d] at e
  cases e
theorem Feed.neL {H : Hp} {f l p : Addr} {B : Nat} {xs : List V} (F : Feed H f B l) (h : H p = some (.lst xs)) : p ≠ f := fun e => by
  obtain ⟨ns, sp, ov, ak, z, b⟩ := F
  rw [e, z.d] at h
  cases h
theorem Feed.at {H : Hp} {f l p : Addr} {B : Nat} (F : Feed H f B l) (h1 : p ≠ f) (h2 : p ≠ l) (o : HO) : Feed (upd H p o) f B l := by
  obtain ⟨ns, sp, ov, ak, z, b⟩ := F
  exact ⟨ns, sp, ov, ak, ⟨by rw [upd_ne (Ne.symm h1)]; exact z.d, by rw [upd_ne (Ne.symm h2)]; exact z.s, z.n, z.p, z.a⟩, b⟩
theorem Feed.stock {H : Hp} {f l : Addr} {B : Nat} (F : Feed H f B l) : ∃ o, H l = some o := by
  obtain ⟨ns, sp, ov, ak, z, b⟩ := F
  exact ⟨_, z.s⟩
/-- things made one behind the other -/
structure Acc (K : PySem.W.Frag) (g : Addr) (H0 H : Hp) (vs : List V) (ds : List PyData) : Prop where
  s : Same H0 H
  f : Fo g H
  d : DpAll K (off g H) vs ds
theorem Acc.nil {K : PySem.W.Frag} {g : Addr} {H : Hp} (F : Fo g H) : Acc K g H H [] [] := ⟨Same.refl H, F, .nil⟩
theorem Acc.tup {K : PySem.W.Frag} {g t : Addr} {H0 H : Hp} {vs ws : List V} {ds es : List PyData} (A : Acc K g H0 H vs ds) (h : H t = none) (b : DpAll K (off g H) ws es) : Acc K g H0 (upd H t (.tup ws)) (vs ++ [.ref t]) (ds ++ [.tuple es]) :=
  ⟨A.s.trans (same_new h _), A.f.same (same_new h _), DpAll_app (dpSameAll (off_mono (same_new h _)) _ _ A.d) (.cons (newTup A.f h b) .nil)⟩
theorem Acc.lst {K : PySem.W.Frag} {g t : Addr} {H0 H : Hp} {vs ws : List V} {ds es : List PyData} (A : Acc K g H0 H vs ds) (h : H t = none) (b : DpAll K (off g H) ws es) : Acc K g H0 (upd H t (.lst ws)) (vs ++ [.ref t]) (ds ++ [.list es]) :=
  ⟨A.s.trans (same_new h _), A.f.same (same_new h _), DpAll_app (dpSameAll (off_mono (same_new h _)) _ _ A.d) (.cons (newLst A.f h b) .nil)⟩
theorem Acc.flat {K : PySem.W.Frag} {g : Addr} {H0 H : Hp} {vs : List V} {ds : List PyData} (A : Acc K g H0 H vs ds) {v : V} {d : PyData} (h : Dp K (off g H) v d) : Acc K g H0 H (vs ++ [v]) (ds ++ [d]) := ⟨A.s, A.f, DpAll_app A.d (.cons h .nil)⟩
theorem pairs_dp {K : PySem.W.Frag} {H : Hp} {f : Addr} (n : ∀ xs, H f ≠ some (.tup xs)) : ∀ {vs : List V} {ps : List (Nat × Nat)}, Pairs H vs ps → DpAll K (off f H) vs (ps.map prD)
  | _, _, .nil => .nil
  | _, _, .cons (a := a) h r => .cons (dp_pair (.inl (.inl (by rw [off_ne (fun z => n _ (z ▸ h))]; exact h)))) (pairs_dp n r)
theorem out_pair {p : Nat × Nat} (h1 : p.1 < 2 ^ 1900) (h2 : p.2 < 2 ^ 1900) : PyData.showable (prD p) = true ∧ (prD p).depth ≤ 1 ∧ sz (prD p) ≤ 3850 := by
  have s : ∀ n : Nat, n < 2 ^ 1900 → PyData.showable (.int (n : Int)) = true := fun n h => by
    simp only [PyData.showable, decide_eq_true_eq]
    exact Nat.lt_of_lt_of_le (PySem.Flt.log2_lt_of (show 0 < 1900 by decide) (by rw [Int.natAbs_natCast]; exact h)) (by omega)
  have a := s _ h1
  have b := s _ h2
  refine ⟨?_, ?_, ?_⟩
  · simp only [prD, PyData.showable, PyData.showableAll, Bool.and_true, Bool.and_eq_true]
    exact ⟨by simpa only [PyData.showable] using a, by simpa only [PyData.showable] using b⟩
  · simp [prD, PyData.depth, PyData.depthAll]
  · simp [prD, sz, szAll]
theorem fine_pairs {ps : List (Nat × Nat)} (h : ∀ p ∈ ps, p.1 < 2 ^ 1900 ∧ p.2 < 2 ^ 1900) (hl : ps.length ≤ 100) : Fine (.tuple (ps.map prD)) ∧ Fine (.list (ps.map prD)) := by
  obtain ⟨b1, b2, b3⟩ := seq_of (M := 3850) (D := 1) (ds := ps.map prD) fun d hd => by
    obtain ⟨p, hp, rfl⟩ := List.mem_map.mp hd
    exact out_pair (h p hp).1 (h p hp).2
  rw [List.length_map] at b3
  have b4 : ps.length * (3850 + 2) ≤ 100 * (3850 + 2) := Nat.mul_le_mul_right _ hl
  refine ⟨⟨?_, ?_, ?_⟩, ⟨?_, ?_, ?_⟩⟩
  · simpa only [PyData.showable] using b1
  · simp only [PyData.depth]; omega
  · simp only [sz]; omega
  · simpa only [PyData.showable] using b1
  · simp only [PyData.depth]; omega
  · simp only [sz]; omega
theorem Out.fine {n : Nat} {d : PyData} (h : Out n d) (hn : n ≤ 4) : Fine d := ⟨h.1, by have := h.2.1; omega, by have := h.2.2; omega⟩
theorem low_nil : low (prd ([] : List (Nat × Nat))) = (1, 1) := by first | rfl | decide | simp [low, prd]
theorem _root_.Gl.Pairs.get {H : Hp} : ∀ {vs : List V} {ps : List (Nat × Nat)}, Gl.Pairs H vs ps → ∀ {j : Nat} {x : V}, vs[j]? = some x → ∃ a q, x = .ref a ∧ ps[j]? = some q ∧ H a = some (.tup [.int (q.1 : Int), .int (q.2 : Int)])
  | _, _, .nil, j, x, h => by simp at h
  | _, _, .cons (a := a) (p := p) e r, 0, x, h => ⟨a, p, (Option.some.inj h).symm, rfl, e⟩
  | _, _, .cons e r, j + 1, x, h => by
    obtain ⟨a, q, h1, h2, h3⟩ := r.get (j := j) (x := x) (by simpa using h)
    exact ⟨a, q, h1, by simpa using h2, h3⟩
theorem rep_dp {K : PySem.W.Frag} {H : Hp} {v : V} {d : PyData} : ∀ n : Nat, Dp K H v d → DpAll K H (List.replicate n [v]).flatten (List.replicate n d)
  | 0, _ => .nil
  | n + 1, h => .cons h (rep_dp n h)
theorem prd_rep : ∀ n : Nat, prd (List.replicate n (1, 2)) = (1, 2 ^ n)
  | 0 => rfl
  | n + 1 => by
    show (1 * (prd (List.replicate n (1, 2))).1, 2 * (prd (List.replicate n (1, 2))).2) = (1, 2 ^ (n + 1))
    rw [prd_rep n]
    simp only [Nat.one_mul, Nat.pow_succ, Nat.mul_comm]
theorem low_rep : low (prd (List.replicate 40 (1, 2))) = (1, 2 ^ 40) := by
  rw [prd_rep]
  unfold low
  simp only [Nat.gcd_one_left, Nat.div_one]
/-- the items so far -/
structure Items (K : PySem.W.Frag) (H : Hp) (g p : Addr) (ds : List PyData) : Prop where
  l : ∃ vs, H p = some (.lst vs) ∧ DpAll K (off g H) vs ds
  o : ∀ d ∈ ds, Out 2 d
theorem Items.mv {K : PySem.W.Frag} {H H' : Hp} {g p l : Addr} {B : Nat} {ds : List PyData} (I : Items K H g p ds) (F : Feed H g B l) (m : Mv g H H') : Items K H' g p ds := by
  obtain ⟨vs, h, a⟩ := I.l
  exact ⟨⟨vs, m _ _ (F.neL h) h, dpSameAll m.off _ _ a⟩, I.o⟩
section
variable {P : Program} {w : World} {K : PySem.W.Frag} {mg : Str → Option Value} {base : Heap}
/-! ### law -/
def spLaw (K : PySem.W.Frag) : Sp := fun vs H Q _ => ∃ (a : Addr) (ns : List Int), vs = [.ref a] ∧ SqL K H a (ns.map V.int) ∧ ns.length ≤ 63 ∧ ∀ H', Q (.bl true) H'
abbrev sLaw : Stmt := topS 16
def firstItems : List PyData := [.tuple [.int 0, .int 1], .tuple [.int 0, .int 2], .tuple [.int 2, .int 4], .tuple [.int 1, .int 0], .tuple [.int 0, .int 0], .tuple [.int 1, .int 1], .tuple [.int 3, .int 3], .tuple [.int (-1), .int 2], .tuple [.int 1, .int (-2)], .tuple [.bool true, .int 2], .tuple [.int 1, .bool true],
  .list [.int 1, .int 2], .tuple [.int 1], .none, .str "1", .tuple [.int 1, .int 2, .int 3]]
theorem out_first : ∀ d ∈ firstItems, Out 2 d := by
  have h : firstItems.all fineB = true := by decide +kernel
  intro d hd
  have h' := List.all_eq_true.mp h d hd
  have h2 : (PyData.showable d = true ∧ d.depth ≤ 5) ∧ sz d ≤ 10000 := by simpa [fineB] using h'
  exact ⟨h2.1.1, by omega, by omega⟩
theorem ok_law {f : Addr} {fd : FuncData} {k : Nat} (F : Fun K "law" "law" sLaw f fd)
    {a1 a2 a3 a4 a5 a6 a7 a8 : Addr} {d1 d2 d3 d4 d5 d6 d7 d8 : FuncData}
    (Gfeed : FnOk P w K mg base CX0 k a1 d1 ["_law_script"] (spFeed K)) (mfeed : mg "_law_feed" = some (.ref a1)) (kfeed : PySem.W.keepIn K (.ref a1) = true) (bfeed : Binds K d1 ["_law_script"] [])
    (Gdraw : FnOk P w K mg base CX0 k a2 d2 ["_law_feed_here", "_law_size"] spDraw) (mdraw : mg "_law_draw" = some (.ref a2)) (kdraw : PySem.W.keepIn K (.ref a2) = true) (bdraw : Binds K d2 ["_law_feed_here", "_law_size"] [])
    (Gfig : FnOk P w K mg base CX0 k a3 d3 ["_law_feed_here"] spFig) (mfig : mg "_law_figure" = some (.ref a3)) (kfig : PySem.W.keepIn K (.ref a3) = true) (bfig : Binds K d3 ["_law_feed_here"] [])
    (Gpart : FnOk P w K mg base CX0 k a4 d4 ["_law_over", "_law_under"] (spPart K)) (mpart : mg "_law_parted" = some (.ref a4)) (kpart : PySem.W.keepIn K (.ref a4) = true) (bpart : Binds K d4 ["_law_over", "_law_under"] [])
    (Gbent : FnOk P w K mg base CX0 k a5 d5 ["_law_feed_here", "_law_item"] (spBent K 2)) (mbent : mg "_law_bent" = some (.ref a5)) (kbent : PySem.W.keepIn K (.ref a5) = true) (bbent : Binds K d5 ["_law_feed_here", "_law_item"] [])
    (Gless : FnOk P w K mg base CX0 k a6 d6 ["fraction"] (spLess K)) (mless : mg "one_less" = some (.ref a6)) (kless : PySem.W.keepIn K (.ref a6) = true) (bless : Binds K d6 ["fraction"] []) (bless_f : KBinds K d6 ["fraction"] ["fraction"] (fun us ws => us ++ ws) (fun vs zs => vs ++ zs))
    (Gprod : FnOk P w K mg base CX0 k a7 d7 ["fractions"] (spProd K)) (mprod : mg "product_of" = some (.ref a7)) (kprod : PySem.W.keepIn K (.ref a7) = true) (bprod : Binds K d7 ["fractions"] []) (bprod_f : KBinds K d7 ["fractions"] ["fractions"] (fun us ws => us ++ ws) (fun vs zs => vs ++ zs))
    (Gfrac : FnOk P w K mg base CX0 k a8 d8 ["thing"] (spFrac K)) (mfrac : mg "is_fraction" = some (.ref a8)) (kfrac : PySem.W.keepIn K (.ref a8) = true) (bfrac : Binds K d8 ["thing"] []) (bfrac_t : KBinds K d8 ["thing"] ["thing"] (fun us ws => us ++ ws) (fun vs zs => vs ++ zs))
    {a9 : Addr} {d9 : FuncData} (Gisp : FnOk P w K mg base CX0 k a9 d9 ["_law_item"] (spIsp K)) (misp : mg "_law_is_part" = some (.ref a9)) (kisp : PySem.W.keepIn K (.ref a9) = true) (bisp : Binds K d9 ["_law_item"] [])
    (mrange : mg "range" = none) (mtuple : mg "tuple" = none) (mrepr : mg "repr" = none) : OkG P w K mg base CX0 (k + 1) f fd ["_law_script"] (spLaw K) := by
  have scThis : FnScope ["_law_script", "_law_feed_here", "_law_items", "_law_lap", "_law_some", "_law_due", "_law_kept", "_law_part", "_law_rest_now", "_law_item", "_law_n"] ["_law_script"] (defScope sLaw) := ⟨rfl, rfl, rfl, by decide +kernel, rfl, by decide +kernel, by decide +kernel⟩
  refine okG F scThis (fun vs H Q E h => ?_) (fun cdv A outer s H vs Q E gd hr h => ?_)
  · obtain ⟨a, ns, rfl, _⟩ := h
    rfl
  obtain ⟨sa, ns, rfl, hS, hl, q⟩ := h
  have hg : (A.deeper (envOfC "law" (defScope sLaw) s.heap.objs.size f cdv)).guards = some [] := gd
  have hu64 : (A.deeper (envOfC "law" (defScope sLaw) s.heap.objs.size f cdv)).units + 64 < cLine := hr.units
  refine ⟨_, (pss_cons (ps_set (i := 1) scThis.nd rfl (.inr rfl) (pe_call Gfeed (hr.mono (by omega)) (by rfl) mfeed kfeed bfeed .nil pass0 (pa_cons (pv 0) pa_nil)))
(pss_cons (ps_set (i := 2) scThis.nd rfl (.inl rfl) (pe_lst (pa_cons (pe_tup (pa_cons pe_int (pa_cons pe_int pa_nil))) (pa_cons (pe_tup (pa_cons pe_int (pa_cons pe_int pa_nil))) (pa_cons (pe_tup (pa_cons pe_int (pa_cons pe_int pa_nil))) (pa_cons (pe_tup (pa_cons pe_int (pa_cons pe_int pa_nil))) (pa_cons (pe_tup (pa_cons pe_int (pa_cons pe_int pa_nil))) (pa_cons (pe_tup (pa_cons pe_int (pa_cons pe_int pa_nil))) (pa_cons (pe_tup (pa_cons pe_int (pa_cons pe_int pa_nil))) (pa_cons (pe_tup (pa_cons (pe_un un_neg pe_int) (pa_cons pe_int pa_nil))) (pa_cons (pe_tup (pa_cons pe_int (pa_cons (pe_un un_neg pe_int) pa_nil))) (pa_cons (pe_tup (pa_cons pe_bl (pa_cons pe_int pa_nil))) (pa_cons (pe_tup (pa_cons pe_int (pa_cons pe_bl pa_nil))) pa_nil)))))))))))))
(pss_cons (ps_set (i := 2) scThis.nd rfl (.inl rfl) (pe_op op_cat (pv 2) (pe_lst (pa_cons (pe_lst (pa_cons pe_int (pa_cons pe_int pa_nil))) (pa_cons (pe_tup (pa_cons pe_int pa_nil)) (pa_cons pe_non (pa_cons pe_str (pa_cons (pe_tup (pa_cons pe_int (pa_cons pe_int (pa_cons pe_int pa_nil)))) pa_nil))))))))
(pss_cons (ps_for PassesOwn.never rfl (pi_range1 (by rfl) mrange (pa_cons pe_int pa_nil)) (pg_name (i := 3) scThis.nd rfl (.inl rfl))
(pss_cons (ps_set (i := 4) scThis.nd rfl (.inl rfl) (pe_callTy call_tuple_of (by rfl) mtuple (by decide +kernel) (pa_cons (pe_lc (own := [("_law_n", 10)]) (tt := tYes) rfl scThis.nd (pi_range1 (by rfl) mrange (pa_cons (pe_call Gdraw (hr.mono (by omega)) (by rfl) mdraw kdraw bdraw .nil pass0 (pa_cons (pv 1) (pa_cons pe_int pa_nil))) pa_nil)) (blkOk_by (own := [("_law_n", 10)]) (N := ["_law_script", "_law_feed_here", "_law_items", "_law_lap", "_law_some", "_law_due", "_law_kept", "_law_part", "_law_rest_now", "_law_item", "_law_n"]) (sc := defScope sLaw) (by decide +kernel)) (fun _ _ _ _ _ => (pg_name (i := 10) scThis.nd rfl (.inl rfl))) (fun _ _ _ _ _ => pts_nil) (fun _ _ _ _ _ => (pe_call Gpart (hr.mono (by omega)) (by rfl) mpart kpart bpart .nil pass0 (pa_cons (pe_call Gfig (hr.mono (by omega)) (by rfl) mfig kfig bfig .nil pass0 (pa_cons (pv 1) pa_nil)) (pa_cons (pe_op op_add (pe_call Gfig (hr.mono (by omega)) (by rfl) mfig kfig bfig .nil pass0 (pa_cons (pv 1) pa_nil)) pe_int) pa_nil))))) pa_nil)))
(pss_cons (ps_par (i := 5) (j := 6) rfl scThis.nd rfl rfl (by decide) rfl rfl (pa_cons (pe_tup (pa_cons pe_int (pa_cons pe_int pa_nil))) (pa_cons (pe_callB (call_tell hg hu64) (by rfl) mrepr (by decide +kernel) (pa_cons (pv 4) pa_nil)) pa_nil)) (by rfl))
(pss_cons (ps_for PassesOwn.never rfl (pi_tup (pv 4)) (pg_name (i := 7) scThis.nd rfl (.inl rfl))
(pss_cons (ps_set (i := 5) scThis.nd rfl (.inl rfl) (pe_call Gpart (hr.mono (by omega)) (by rfl) mpart kpart bpart .nil pass0 (pa_cons (pe_op op_mulW (pe_ix ix_tup (pv 5) pe_int (fun _ _ => rfl)) (pe_ix ix_tup (pv 7) pe_int (fun _ _ => rfl))) (pa_cons (pe_op op_mulW (pe_ix ix_tup (pv 5) pe_int (fun _ _ => rfl)) (pe_ix ix_tup (pv 7) pe_int (fun _ _ => rfl))) pa_nil))))
(pss_cons (ps_set (i := 2) scThis.nd rfl (.inl rfl) (pe_op op_cat (pv 2) (pe_lst (pa_cons (pv 7) (pa_cons (pe_call Gbent (hr.mono (by omega)) (by rfl) mbent kbent bbent .nil pass0 (pa_cons (pv 1) (pa_cons (pv 7) pa_nil))) (pa_cons (pe_tup (pa_cons (pe_op op_mulW (pe_ix ix_tup (pv 7) pe_int (fun _ _ => rfl)) pe_int) (pa_cons (pe_op op_mulW (pe_ix ix_tup (pv 7) pe_int (fun _ _ => rfl)) pe_int) pa_nil))) pa_nil))))))
(pss_one (ps_if (pt_cmpR op_le (pe_ix ix_tup (pv 7) pe_int (fun _ _ => rfl)) (pe_ix ix_tup (pv 7) pe_int (fun _ _ => rfl)) (nomark _))
(pss_cons (ps_set (i := 8) scThis.nd rfl (.inl rfl) (pe_callB (call_tell hg hu64) (by rfl) mrepr (by decide +kernel) (pa_cons (pe_op op_rep (pe_lst (pa_cons (pe_call Gpart (hr.mono (by omega)) (by rfl) mpart kpart bpart .nil pass0 (pa_cons (pe_op op_sub (pe_ix ix_tup (pv 7) pe_int (fun _ _ => rfl)) (pe_ix ix_tup (pv 7) pe_int (fun _ _ => rfl))) (pa_cons (pe_ix ix_tup (pv 7) pe_int (fun _ _ => rfl)) pa_nil))) pa_nil)) pe_int) pa_nil)))
(pss_one (ps_if (pt_cmpR op_ne (pe_callB (call_tell hg hu64) (by rfl) mrepr (by decide +kernel) (pa_cons (pe_lst (pa_cons (pe_call Gless (hr.mono (by omega)) (by rfl) mless kless bless .nil pass0 (pa_cons (pv 7) pa_nil)) (pa_cons (pe_kw Gless (hr.mono (by omega)) (by rfl) mless kless bless_f pass0 (pk_cons (pv 7) pk_nil)) pa_nil))) pa_nil)) (pv 8) (nomark _))
(pss_one (ps_ret pe_bl))
pss_nil)))
pss_nil)))))
(pss_one (ps_if (PW.pt (pw_or (pt_cmpR op_ne (pe_callB (call_tell hg hu64) (by rfl) mrepr (by decide +kernel) (pa_cons (pe_lst (pa_cons (pe_call Gprod (hr.mono (by omega)) (by rfl) mprod kprod bprod .nil pass0 (pa_cons (pv 4) pa_nil)) (pa_cons (pe_kw Gprod (hr.mono (by omega)) (by rfl) mprod kprod bprod_f pass0 (pk_cons (pv 4) pk_nil)) pa_nil))) pa_nil)) (pe_callB (call_tell hg hu64) (by rfl) mrepr (by decide +kernel) (pa_cons (pe_lst (pa_cons (pv 5) (pa_cons (pv 5) pa_nil))) pa_nil)) (nomark _)) (pw_or1 (pt_cmpR op_ne (pe_callB (call_tell hg hu64) (by rfl) mrepr (by decide +kernel) (pa_cons (pv 4) pa_nil)) (pv 6) (nomark _)))))
(pss_one (ps_ret pe_bl))
pss_nil))))))
(pss_cons (ps_for PassesOwn.never rfl (pi_list (pv 2)) (pg_name (i := 9) scThis.nd rfl (.inl rfl))
(pss_cons (ps_set (i := 6) scThis.nd rfl (.inl rfl) (pe_callB (call_tell hg hu64) (by rfl) mrepr (by decide +kernel) (pa_cons (pv 9) pa_nil)))
(pss_one (ps_if (PW.pt (pw_or (pt_cmpR op_ne (pe_callB (call_tell hg hu64) (by rfl) mrepr (by decide +kernel) (pa_cons (pe_lst (pa_cons (pe_call Gfrac (hr.mono (by omega)) (by rfl) mfrac kfrac bfrac .nil pass0 (pa_cons (pv 9) pa_nil)) (pa_cons (pe_kw Gfrac (hr.mono (by omega)) (by rfl) mfrac kfrac bfrac_t pass0 (pk_cons (pv 9) pk_nil)) pa_nil))) pa_nil)) (pe_callB (call_tell hg hu64) (by rfl) mrepr (by decide +kernel) (pa_cons (pe_op op_rep (pe_lst (pa_cons (pe_call Gisp (hr.mono (by omega)) (by rfl) misp kisp bisp .nil pass0 (pa_cons (pv 9) pa_nil)) pa_nil)) pe_int) pa_nil)) (nomark _)) (pw_or1 (pt_cmpR op_ne (pe_callB (call_tell hg hu64) (by rfl) mrepr (by decide +kernel) (pa_cons (pv 9) pa_nil)) (pv 6) (nomark _)))))
(pss_one (ps_ret pe_bl))
pss_nil))))
(pss_one (ps_ret (pe_and (pe_cmpR (op_eqD hu64) (pe_call Gprod (hr.mono (by omega)) (by rfl) mprod kprod bprod .nil pass0 (pa_cons (pe_op op_repT (pe_tup (pa_cons (pe_tup (pa_cons pe_int (pa_cons pe_int pa_nil))) pa_nil)) pe_int) pa_nil)) (pe_tup (pa_cons pe_int (pa_cons (pe_op op_pow pe_int pe_int) pa_nil))) (nomark _)) (pe_one (pe_cmpR (op_eqD hu64) (pe_call Gprod (hr.mono (by omega)) (by rfl) mprod kprod bprod .nil pass0 (pa_cons (pe_tup pa_nil) pa_nil)) (pe_tup (pa_cons pe_int (pa_cons pe_int pa_nil))) (nomark _))))))))))), ?_⟩
  -- the feed
  refine ⟨_, rfl, sa, ns, rfl, hS, hl, fun g H0 l s00 hg0 hl0 f0 => ?_⟩
  have acc := Acc.nil (K := K) f0.fo
  have lst0 : ∀ n : Nat, n ≤ 64 → n ≤ sizeLine := fun n h => Nat.le_trans h (by decide)
  refine ⟨lst0 2 (by omega), fun t0 n => ?_⟩
  replace acc := acc.tup n (.cons (.int 0) (.cons (.int 1) .nil))
  generalize upd _ t0 (.tup [V.int 0, V.int 1]) = H1 at acc ⊢
  refine ⟨lst0 2 (by omega), fun t1 n => ?_⟩
  replace acc := acc.tup n (.cons (.int 0) (.cons (.int 2) .nil))
  generalize upd _ t1 (.tup [V.int 0, V.int 2]) = H1 at acc ⊢
  refine ⟨lst0 2 (by omega), fun t2 n => ?_⟩
  replace acc := acc.tup n (.cons (.int 2) (.cons (.int 4) .nil))
  generalize upd _ t2 (.tup [V.int 2, V.int 4]) = H1 at acc ⊢
  refine ⟨lst0 2 (by omega), fun t3 n => ?_⟩
  replace acc := acc.tup n (.cons (.int 1) (.cons (.int 0) .nil))
  generalize upd _ t3 (.tup [V.int 1, V.int 0]) = H1 at acc ⊢
  refine ⟨lst0 2 (by omega), fun t4 n => ?_⟩
  replace acc := acc.tup n (.cons (.int 0) (.cons (.int 0) .nil))
  generalize upd _ t4 (.tup [V.int 0, V.int 0]) = H1 at acc ⊢
  refine ⟨lst0 2 (by omega), fun t5 n => ?_⟩
  replace acc := acc.tup n (.cons (.int 1) (.cons (.int 1) .nil))
  generalize upd _ t5 (.tup [V.int 1, V.int 1]) = H1 at acc ⊢
  refine ⟨lst0 2 (by omega), fun t6 n => ?_⟩
  replace acc := acc.tup n (.cons (.int 3) (.cons (.int 3) .nil))
  generalize upd _ t6 (.tup [V.int 3, V.int 3]) = H1 at acc ⊢
  refine ⟨_, rfl, lst0 2 (by omega), fun t7 n => ?_⟩
  replace acc := acc.tup n (.cons (.int (-1)) (.cons (.int 2) .nil))
  generalize upd _ t7 (.tup [V.int (-1), V.int 2]) = H1 at acc ⊢
  refine ⟨_, rfl, lst0 2 (by omega), fun t8 n => ?_⟩
  replace acc := acc.tup n (.cons (.int 1) (.cons (.int (-2)) .nil))
  generalize upd _ t8 (.tup [V.int 1, V.int (-2)]) = H1 at acc ⊢
  refine ⟨lst0 2 (by omega), fun t9 n => ?_⟩
  replace acc := acc.tup n (.cons (.bl true) (.cons (.int 2) .nil))
  generalize upd _ t9 (.tup [V.bl true, V.int 2]) = H1 at acc ⊢
  refine ⟨lst0 2 (by omega), fun t10 n => ?_⟩
  replace acc := acc.tup n (.cons (.int 1) (.cons (.bl true) .nil))
  generalize upd _ t10 (.tup [V.int 1, V.bl true]) = H1 at acc ⊢
  obtain ⟨S1, fo1, dd1⟩ := acc
  have f1 := f0.same S1
  refine ⟨lst0 11 (by omega), fun p0 np0 => ?_⟩
  have dd2 := dpSameAll (off_mono (same_new np0 (.lst [V.ref t0, V.ref t1, V.ref t2, V.ref t3, V.ref t4, V.ref t5, V.ref t6, V.ref t7, V.ref t8, V.ref t9, V.ref t10]))) _ _ dd1
  have S2 := S1.trans (same_new np0 (.lst [V.ref t0, V.ref t1, V.ref t2, V.ref t3, V.ref t4, V.ref t5, V.ref t6, V.ref t7, V.ref t8, V.ref t9, V.ref t10]))
  have e2 := @upd_same H1 p0 (.lst [V.ref t0, V.ref t1, V.ref t2, V.ref t3, V.ref t4, V.ref t5, V.ref t6, V.ref t7, V.ref t8, V.ref t9, V.ref t10])
  generalize upd H1 p0 (.lst [V.ref t0, V.ref t1, V.ref t2, V.ref t3, V.ref t4, V.ref t5, V.ref t6, V.ref t7, V.ref t8, V.ref t9, V.ref t10]) = H2 at dd2 S2 e2 ⊢
  have f2 := f0.same S2
  -- items + [[1, 2], (1,), None, '1', (1, 2, 3)]
  have acc := Acc.nil (K := K) f2.fo
  refine ⟨_, rfl, lst0 2 (by omega), fun u1 n => ?_⟩
  replace acc := acc.lst n (.cons (.int 1) (.cons (.int 2) .nil))
  generalize upd _ u1 (.lst [V.int 1, V.int 2]) = H3 at acc ⊢
  refine ⟨lst0 1 (by omega), fun u2 n => ?_⟩
  replace acc := acc.tup n (.cons (.int 1) .nil)
  generalize upd _ u2 (.tup [V.int 1]) = H3 at acc ⊢
  replace acc := (acc.flat .non).flat (.str "1")
  refine ⟨lst0 3 (by omega), fun u3 n => ?_⟩
  replace acc := acc.tup n (.cons (.int 1) (.cons (.int 2) (.cons (.int 3) .nil)))
  generalize upd _ u3 (.tup [V.int 1, V.int 2, V.int 3]) = H3 at acc ⊢
  obtain ⟨S3, fo3, dd3⟩ := acc
  refine ⟨lst0 5 (by omega), fun p1 np1 => ?_⟩
  have s4 := same_new np1 (.lst [V.ref u1, V.ref u2, V.non, V.str "1", V.ref u3])
  have e4 := @upd_same H3 p1 (.lst [V.ref u1, V.ref u2, V.non, V.str "1", V.ref u3])
  have dd4 := dpSameAll (off_mono s4) _ _ dd3
  have S4 := S3.trans s4
  generalize upd H3 p1 (.lst [V.ref u1, V.ref u2, V.non, V.str "1", V.ref u3]) = H4 at s4 e4 dd4 S4 ⊢
  refine ⟨p0, p1, _, _, rfl, rfl, S4 _ _ e2, e4, lst0 16 (by omega), fun p np => ?_⟩
  have S5 := same_new np (.lst ([V.ref t0, V.ref t1, V.ref t2, V.ref t3, V.ref t4, V.ref t5, V.ref t6, V.ref t7, V.ref t8, V.ref t9, V.ref t10] ++ [V.ref u1, V.ref u2, V.non, V.str "1", V.ref u3]))
  have I5 : Items K (upd H4 p (.lst ([V.ref t0, V.ref t1, V.ref t2, V.ref t3, V.ref t4, V.ref t5, V.ref t6, V.ref t7, V.ref t8, V.ref t9, V.ref t10] ++ [V.ref u1, V.ref u2, V.non, V.str "1", V.ref u3]))) g p firstItems := ⟨⟨_, upd_same, dpSameAll (off_mono S5) _ _ (DpAll_app (dpSameAll (off_mono S4) _ _ dd2) dd4)⟩, out_first⟩
  have f5 := ((f0.same S2).same S4).same S5
  generalize upd H4 p (.lst ([V.ref t0, V.ref t1, V.ref t2, V.ref t3, V.ref t4, V.ref t5, V.ref t6, V.ref t7, V.ref t8, V.ref t9, V.ref t10] ++ [V.ref u1, V.ref u2, V.non, V.str "1", V.ref u3])) = H5 at S5 I5 f5 ⊢
  clear dd1 dd2 dd3 dd4 e2 e4

  refine ⟨4, rfl, by decide, by decide, for_range (lo := 0) (n := 4) (fun i σ H' => ∃ p ds y3 y4 y5 y6 y7 y8, σ = [some (.ref sa), some (.ref g), some (.ref p), y3, y4, y5, y6, y7, y8, none, none] ∧ Items K H' g p ds ∧ Feed H' g (i * 300) l ∧ ds.length ≤ 16 + i * 30)
    ⟨p, firstItems, none, none, none, none, none, none, rfl, I5, f5, by decide⟩ (fun i σ H' hi h => ?_) (fun σ H' h => ?_)⟩
  · obtain ⟨p, ds, y3, y4, y5, y6, y7, y8, rfl, I, fd, hlen⟩ := h
    -- some = tuple([..])
    refine ⟨_, rfl, g, _, i * 300, _, rfl, fd, by omega, by decide, by decide, fun Ha r ma fa r0 r1 => ⟨r, rfl, by omega, by omega, fun D hD => ?_⟩⟩
    refine lc_range (lo := 0) (n := r.toNat) (fun j Hx => ∃ ps vs, ps.length = j ∧ (∀ q ∈ ps, Good q) ∧ Hx D = some (.lst vs) ∧ Pairs Hx vs ps ∧ Feed Hx g (i * 300 + 1 + 8 * j) l ∧ Mv g Ha Hx)
      ⟨[], [], rfl, (fun q hq => nomatch hq), upd_same, .nil, fa.new hD _, Mv.new hD _⟩ (fun j Hx hj h => ?_) (fun Hx h => ?_)
    · obtain ⟨ps, vs, lp, gp, eD, pp, fx, mx⟩ := h
      refine ⟨rfl, iteT (B := True) ?_⟩
      refine ⟨_, rfl, g, i * 300 + 1 + 8 * j, _, rfl, fx, by omega, fun H1 n1 m1 f1 l1 => ?_⟩
      refine ⟨_, rfl, g, _, _, rfl, f1, by omega, fun H2 n2 m2 f2 l2 => ?_⟩
      refine ⟨_, _, rfl, rfl, n1, n2 + 1, rfl, by omega, Nat.lt_of_le_of_lt (show n2 + 1 ≤ 2 ^ 60 by omega) (Nat.pow_lt_pow_right (by omega) (by omega)), fun r' H3 s3 nr hr' => ?_⟩
      have m13 : Mv g Hx H3 := m1.trans (m2.trans (Mv.same s3))
      have Dg : D ≠ g := fx.neL eD
      have eD3 : H3 D = some (.lst vs) := m13 D _ Dg eD
      have f3 := f2.same s3
      obtain ⟨ol, hol⟩ := fa.stock
      have Dl : D ≠ l := fun e => by rw [e, hol] at hD; cases hD
      have gd3 := good_low (a := n1) (b := n2 + 1) (by omega) (by omega) (by omega)
      have tD : ∀ xs, H3 D ≠ some (.tup xs) := fun xs e => by rw [eD3] at e; cases e
      refine ⟨vs, eD3, Nat.lt_of_le_of_lt (show vs.length ≤ 10 by rw [pp.len]; omega) (by decide), ps ++ [low (n1, n2 + 1)], vs ++ [.ref r'], by rw [List.length_append, lp]; rfl, fun z hz => ?_, upd_same, ?_, (f3.at Dg Dl _).mono (by omega), ?_⟩
      · rcases List.mem_append.mp hz with h | h
        · exact gp z h
        · rw [List.mem_singleton.mp h]
          exact gd3
      · have k3 := (KeepT.mv m13 fx.noTup).trans (KeepT.at tD (.lst (vs ++ [.ref r'])))
        exact (pp.mono k3).snoc (KeepT.at tD _ _ _ hr')
      · intro b o nb e
        have bD : b ≠ D := ne_of_none e hD
        rw [upd_ne bD]
        exact m13 b o nb (mx b o nb e)
    · obtain ⟨ps, vs, lp, gp, eD, pp, fx, mx⟩ := h
      have lp9 : ps.length ≤ 9 := by rw [lp]; omega
      refine ⟨D, vs, rfl, .inl ⟨.inl (.inl eD), fun T nT => ?_⟩⟩
      have sT := same_new nT (.tup vs)
      have IT := I.mv fd (ma.trans (mx.trans (Mv.same sT)))
      have ppT := pp.mono (KeepT.same sT)
      have fT := (fx.same sT).mono (show i * 300 + 1 + 8 * r.toNat ≤ i * 300 + 73 by omega)
      have eT := @upd_same Hx T (.tup vs)
      generalize upd Hx T (.tup vs) = HT at sT IT ppT fT eT ⊢
      clear pp fx mx eD hD nT sT I fd ma fa
      have fineS := (fine_pairs (ps := ps) (fun z hz => ⟨Nat.lt_trans (gp z hz).a (Nat.pow_lt_pow_right (by omega) (by omega)), Nat.lt_trans (gp z hz).b (Nat.pow_lt_pow_right (by omega) (by omega))⟩) (by omega)).1
      have dpS : ∀ {Hz : Hp} {Bz : Nat}, Feed Hz g Bz l → Gl.Pairs Hz vs ps → Hz T = some (.tup vs) → Dp K Hz (.ref T) (.tuple (ps.map prD)) := fun fz pz ez => .tup (.inl (.inl ez)) (dpSameAll (off_same g _) _ _ (pairs_dp fz.noTup pz))
      -- due, kept = (1, 1), repr(some)
      refine ⟨lst0 2 (by omega), fun t1 n1 => ?_⟩
      have s1 := same_new n1 (.tup [.int 1, .int 1])
      have I1 := IT.mv fT (Mv.same s1)
      have pp1 := ppT.mono (KeepT.same s1)
      have f1 := fT.same s1
      have eT1 := s1 _ _ eT
      have e1 := @upd_same HT t1 (.tup [.int 1, .int 1])
      generalize upd HT t1 (.tup [.int 1, .int 1]) = H1 at s1 I1 pp1 f1 eT1 e1 ⊢
      refine ⟨_, rfl, _, _, rfl, dpS f1 pp1 eT1, fineS, _, _, rfl, ?_⟩
      -- for part in some
      refine ⟨_, rfl, T, rfl, ⟨_, .inl (.inl eT1)⟩, for_tup (K := K) (a := T) (xs := vs) (fun j σ H' => ∃ p ds dd y7 y8, σ = [some (.ref sa), some (.ref g), some (.ref p), some (.int (0 + (i : Int))), some (.ref T), some (.ref dd), some (.str (PyData.tuple (ps.map prD)).shown), y7, y8, none, none] ∧
        Items K H' g p ds ∧ Feed H' g (i * 300 + 73 + 20 * j) l ∧ ds.length ≤ 16 + i * 30 + 3 * j ∧ Gl.Pairs H' vs ps ∧ H' T = some (.tup vs) ∧ H' dd = some (.tup [.int ((low (prd (ps.take j))).1 : Int), .int ((low (prd (ps.take j))).2 : Int)]))
        ⟨p, ds, t1, _, _, rfl, I1, f1, by omega, pp1, eT1, by rw [List.take_zero, low_nil]; exact e1⟩ (fun j σ H' _ h => ?_) (fun j x σ H' hx h => ?_) (fun σ H' h => ?_)⟩
      · obtain ⟨_, _, _, _, _, _, _, _, _, _, e, _⟩ := h
        exact .inl (.inl e)
      · obtain ⟨p, ds, dd, y7, y8, rfl, I2, f2, hl2, pp2, eT2, ed⟩ := h
        obtain ⟨ap, qp, rfl, hq, ea⟩ := pp2.get hx
        have hj : j < ps.length := (List.getElem?_eq_some_iff.mp hq).1
        have gq : Good qp := gp qp (List.mem_of_getElem? hq)
        have gt : ∀ z ∈ ps.take j, Good z := fun z hz => gp z (List.mem_of_mem_take hz)
        have tk : ps.take (j + 1) = ps.take j ++ [qp] := by rw [List.take_add_one, hq]; rfl
        obtain ⟨lo1, lo2, lo3, _⟩ := low_prd_lt gt 9 (by rw [List.length_take]; omega)
        have qa := gq.a
        have qb := gq.b
        have qc := gq.c
        have sd : SqT K H' dd _ := .inl (.inl ed)
        have sp : SqT K H' ap _ := .inl (.inl ea)
        -- due
        refine ⟨_, rfl, dd, _, _, _, rfl, rfl, sd, atI_nat (j := 0) rfl, _, rfl, ap, _, _, _, rfl, rfl, sp, atI_nat (j := 0) rfl, _, _, rfl, rfl, wide_mul (a := 577) (b := 64) (nat_lt lo1 (by omega)) (nat_lt qa (by omega)) (by omega) (by omega) (by omega), ?_⟩
        refine ⟨_, rfl, dd, _, _, _, rfl, rfl, sd, atI_nat (j := 1) rfl, _, rfl, ap, _, _, _, rfl, rfl, sp, atI_nat (j := 1) rfl, _, _, rfl, rfl, wide_mul (a := 577) (b := 64) (nat_lt lo2 (by omega)) (nat_lt qb (by omega)) (by omega) (by omega) (by omega), ?_⟩
        have dlt : (low (prd (ps.take j))).2 * qp.2 < 2 ^ 1930 := Nat.lt_of_lt_of_le (Nat.mul_lt_mul'' lo2 qb) (by rw [← Nat.pow_add]; exact Nat.pow_le_pow_right (by omega) (by omega))
        refine ⟨(low (prd (ps.take j))).1 * qp.1, (low (prd (ps.take j))).2 * qp.2, rfl, Nat.mul_pos lo3 qc, dlt, fun d3 H3 s3 n3 e3 => ?_⟩
        rw [low_step gt gq, ← tk] at e3
        have I3 := I2.mv f2 (Mv.same s3)
        have f3 := f2.same s3
        have pp3 := pp2.mono (KeepT.same s3)
        have eT3 := s3 _ _ eT2
        have ea3 := s3 _ _ ea
        clear sd sp ed ea eT2 pp2 I2 f2
        -- items + [part, bent(part), (part[0] * 2, part[1] * 2)]
        have dq3 : Dp K (off g H3) (.ref ap) (prD qp) := dp_pair (.inl (.inl (by rw [off_ne (fun z => f3.noTup _ (z ▸ ea3))]; exact ea3)))
        refine ⟨_, rfl, _, rfl, _, rfl, _, rfl, g, i * 300 + 73 + 20 * j, .ref ap, prD qp, _, rfl, f3, by omega, dq3, .inr ⟨(qp.1 : Int), (qp.2 : Int), rfl, nat_lt qa (by omega), nat_lt qb (by omega)⟩, fun H4 bv be m4 f4 dbe outb => ?_⟩
        have I4 := I3.mv f3 m4
        have k4 := KeepT.mv m4 f3.noTup
        have pp4 := pp3.mono k4
        have eT4 := k4 _ _ eT3
        have ea4 := k4 _ _ ea3
        have e4 := k4 _ _ e3
        have dq4 := dpSame m4.off _ _ dq3
        have sp : SqT K H4 ap _ := .inl (.inl ea4)
        refine ⟨_, rfl, ap, _, _, _, rfl, rfl, sp, atI_nat (j := 0) rfl, _, _, rfl, rfl, wide_mul (a := 64) (b := 64) (nat_lt qa (by omega)) (by decide) (by omega) (by omega) (by omega), ?_⟩
        refine ⟨_, rfl, ap, _, _, _, rfl, rfl, sp, atI_nat (j := 1) rfl, _, _, rfl, rfl, wide_mul (a := 64) (b := 64) (nat_lt qb (by omega)) (by decide) (by omega) (by omega) (by omega), lst0 2 (by omega), fun t5 n5 => ?_⟩
        have s5 := same_new n5 (.tup [.int ((qp.1 : Int) * 2), .int ((qp.2 : Int) * 2)])
        have dt5 := newTup (K := K) f4.fo n5 (.cons (.int ((qp.1 : Int) * 2)) (.cons (.int ((qp.2 : Int) * 2)) .nil))
        have dq5 := dpSame (off_mono s5) _ _ dq4
        have db5 := dpSame (off_mono s5) _ _ dbe
        have I5' := I4.mv f4 (Mv.same s5)
        have f5' := f4.same s5
        have pp5 := pp4.mono (KeepT.same s5)
        have eT5 := s5 _ _ eT4
        have ea5 := s5 _ _ ea4
        have e5 := s5 _ _ e4
        generalize upd H4 t5 _ = H5' at s5 dt5 dq5 db5 I5' f5' pp5 eT5 ea5 e5 ⊢
        clear I3 f3 pp3 eT3 ea3 e3 dq3 m4 f4 dbe I4 k4 pp4 eT4 ea4 e4 dq4 sp n5 s5 s3 n3
        refine ⟨lst0 3 (by omega), fun p6 n6 => ?_⟩
        have s6 := same_new n6 (.lst [.ref ap, bv, .ref t5])
        have e6 := @upd_same H5' p6 (.lst [.ref ap, bv, .ref t5])
        have aa6 := dpSameAll (off_mono s6) _ _ (DpAll.cons dq5 (.cons db5 (.cons dt5 .nil)))
        have I6 := I5'.mv f5' (Mv.same s6)
        have f6 := f5'.same s6
        have pp6 := pp5.mono (KeepT.same s6)
        have eT6 := s6 _ _ eT5
        have ea6 := s6 _ _ ea5
        have eD6 := s6 _ _ e5
        generalize upd H5' p6 _ = H6 at s6 e6 aa6 I6 f6 pp6 eT6 ea6 eD6 ⊢
        clear dq5 db5 dt5 I5' f5' pp5 eT5 ea5 e5 n6 s6
        obtain ⟨⟨xs6, ex6, ax6⟩, ox6⟩ := I6
        have lx6 := DpAll_len ax6
        refine ⟨p, p6, _, _, rfl, rfl, ex6, e6, (by show xs6.length + 3 ≤ sizeLine; exact Nat.le_trans (by omega : xs6.length + 3 ≤ 1000) (by decide)), fun p7 n7 => ?_⟩
        have s7 := same_new n7 (.lst (xs6 ++ [.ref ap, bv, .ref t5]))
        have oqp := out_pair (p := qp) (Nat.lt_trans qa (Nat.pow_lt_pow_right (by omega) (by omega))) (Nat.lt_trans qb (Nat.pow_lt_pow_right (by omega) (by omega)))
        have oq2 := out_pair (p := (qp.1 * 2, qp.2 * 2)) (Nat.lt_of_lt_of_le (show qp.1 * 2 < 2 ^ 65 by omega) (Nat.pow_le_pow_right (by omega) (by omega))) (Nat.lt_of_lt_of_le (show qp.2 * 2 < 2 ^ 65 by omega) (Nat.pow_le_pow_right (by omega) (by omega)))
        have I7 : Items K (upd H6 p7 (.lst (xs6 ++ [.ref ap, bv, .ref t5]))) g p7 (ds ++ [prD qp, be, prD (qp.1 * 2, qp.2 * 2)]) := ⟨⟨_, upd_same, dpSameAll (off_mono s7) _ _ (DpAll_app ax6 aa6)⟩, fun d hd => by
          rcases List.mem_append.mp hd with h | h
          · exact ox6 d h
          · simp only [List.mem_cons, List.not_mem_nil, or_false] at h
            rcases h with rfl | rfl | rfl
            · exact ⟨oqp.1, by omega, by omega⟩
            · exact outb
            · exact ⟨oq2.1, by omega, by omega⟩⟩
        have f7 := (f6.same s7).mono (show i * 300 + 73 + 20 * j + 2 * 10 ≤ i * 300 + 73 + 20 * (j + 1) by omega)
        have pp7 := pp6.mono (KeepT.same s7)
        have eT7 := s7 _ _ eT6
        have ea7 := s7 _ _ ea6
        have eD7 := s7 _ _ eD6
        have hl7 : (ds ++ [prD qp, be, prD (qp.1 * 2, qp.2 * 2)]).length ≤ 16 + i * 30 + 3 * (j + 1) := by rw [List.length_append]; show ds.length + 3 ≤ _; omega
        generalize upd H6 p7 _ = H7 at s7 I7 f7 pp7 eT7 ea7 eD7 ⊢
        generalize ds ++ [prD qp, be, prD (qp.1 * 2, qp.2 * 2)] = ds7 at I7 hl7
        clear e6 aa6 f6 pp6 eT6 ea6 eD6 ex6 ax6 ox6 lx6 n7 s7
        -- if part[0] <= part[1]
        have sp7 : SqT K H7 ap _ := .inl (.inl ea7)
        refine ⟨_, rfl, ap, _, _, _, rfl, rfl, sp7, atI_nat (j := 0) rfl, _, rfl, ap, _, _, _, rfl, rfl, sp7, atI_nat (j := 1) rfl, _, _, rfl, rfl, _, rfl, ite2 (fun c => ?_) (fun c => ?_)⟩
        · have hle : qp.1 ≤ qp.2 := by
            have : (qp.1 : Int) ≤ (qp.2 : Int) := of_decide_eq_true c
            omega
          have esub : ((qp.2 : Int) - (qp.1 : Int)) = ((qp.2 - qp.1 : Nat) : Int) := by omega
          refine ⟨_, rfl, ap, _, _, _, rfl, rfl, sp7, atI_nat (j := 1) rfl, _, rfl, ap, _, _, _, rfl, rfl, sp7, atI_nat (j := 0) rfl, _, _, rfl, rfl, ?_⟩
          refine ⟨_, rfl, ap, _, _, _, rfl, rfl, sp7, atI_nat (j := 1) rfl, qp.2 - qp.1, qp.2, (by show [V.int ((qp.2 : Int) - (qp.1 : Int)), V.int (qp.2 : Int)] = _; rw [esub]), qc, Nat.lt_of_lt_of_le qb (Nat.pow_le_pow_right (by omega) (by omega)), fun r8 H8 s8 n8 e8 => ?_⟩
          rw [low_less hle gq.g] at e8
          refine ⟨lst0 1 (by omega), fun p9 n9 => ?_⟩
          have s9 := same_new n9 (.lst [.ref r8])
          have e9 := @upd_same H8 p9 (.lst [.ref r8])
          refine ⟨p9, 2, _, rfl, rfl, e9, by omega, by omega, lst0 2 (by omega), fun p10 n10 => ?_⟩
          have s10 := same_new n10 (.lst (List.replicate (Int.toNat 2) [V.ref r8]).flatten)
          have e10 : (upd (upd H8 p9 (.lst [.ref r8])) p10 (.lst (List.replicate (Int.toNat 2) [V.ref r8]).flatten)) p10 = some (HO.lst [.ref r8, .ref r8]) := upd_same
          have s810 := s9.trans s10
          have fineL := (fine_pairs (ps := [(qp.2 - qp.1, qp.2), (qp.2 - qp.1, qp.2)]) (fun z hz => by
            simp only [List.mem_cons, List.not_mem_nil, or_false] at hz
            rcases hz with rfl | rfl <;> exact ⟨Nat.lt_of_lt_of_le (show qp.2 - qp.1 < 2 ^ 64 by omega) (Nat.pow_le_pow_right (by omega) (by omega)), Nat.lt_of_lt_of_le qb (Nat.pow_le_pow_right (by omega) (by omega))⟩) (by show 2 ≤ 100; omega)).2
          have pr8 : Dp K (upd (upd H8 p9 (.lst [.ref r8])) p10 (.lst (List.replicate (Int.toNat 2) [V.ref r8]).flatten)) (.ref r8) (prD (qp.2 - qp.1, qp.2)) := dp_pair (.inl (.inl (s810 _ _ e8)))
          refine ⟨_, .list ([(qp.2 - qp.1, qp.2), (qp.2 - qp.1, qp.2)].map prD), rfl, .lst (.inl (.inl e10)) (.cons pr8 (.cons pr8 .nil)), fineL, ?_⟩
          have I10 := I7.mv f7 (Mv.same (s8.trans s810))
          have f10 := f7.same (s8.trans s810)
          have pp10 := pp7.mono (KeepT.same (s8.trans s810))
          have eT10 := (s8.trans s810) _ _ eT7
          have ea10 := (s8.trans s810) _ _ ea7
          have eD10 := (s8.trans s810) _ _ eD7
          generalize upd (upd H8 p9 (.lst [.ref r8])) p10 (.lst (List.replicate (Int.toNat 2) [V.ref r8]).flatten) = H10 at I10 f10 pp10 eT10 ea10 eD10 ⊢
          clear s810 s10 e10 s9 e9 n9 n10 pr8
          -- repr([one_less(part), one_less(fraction=part)])
          have dq10 : Dp K H10 (.ref ap) (prD qp) := dp_pair (.inl (.inl ea10))
          refine ⟨_, rfl, _, qp, rfl, dq10, hle, fun r11 H11 s11 n11 e11 => ?_⟩
          refine ⟨_, rfl, _, qp, rfl, dpSame s11 _ _ dq10, hle, fun r12 H12 s12 n12 e12 => ?_⟩
          refine ⟨lst0 2 (by omega), fun p13 n13 => ?_⟩
          have s13 := same_new n13 (.lst [.ref r11, .ref r12])
          have pa : Dp K (upd H12 p13 (.lst [.ref r11, .ref r12])) (.ref r11) (prD (qp.2 - qp.1, qp.2)) := dp_pair (.inl (.inl (s13 _ _ (s12 _ _ e11))))
          have pb : Dp K (upd H12 p13 (.lst [.ref r11, .ref r12])) (.ref r12) (prD (qp.2 - qp.1, qp.2)) := dp_pair (.inl (.inl (s13 _ _ e12)))
          refine ⟨_, .list ([(qp.2 - qp.1, qp.2), (qp.2 - qp.1, qp.2)].map prD), rfl, .lst (.inl (.inl upd_same)) (.cons pa (.cons pb .nil)), fineL, ?_⟩
          have s1013 := s11.trans (s12.trans s13)
          refine ⟨_, rfl, rfl, _, rfl, ite2 (fun c2 => ?_) (fun c2 => ?_)⟩
          · exact absurd c2 (by rw [decide_eq_true rfl]; decide)
          · exact ⟨_, _, _, _, _, rfl, I10.mv f10 (Mv.same s1013), f10.same s1013, hl7, pp10.mono (KeepT.same s1013), s1013 _ _ eT10, s1013 _ _ eD10⟩
        · exact ⟨_, _, _, _, _, rfl, I7, f7, hl7, pp7, eT7, eD7⟩
      · obtain ⟨p, ds, dd, y7, y8, rfl, I2, f2, hl2, pp2, eT2, ed⟩ := h
        have et : ps.take vs.length = ps := by rw [pp2.len]; exact List.take_length
        have lv : vs.length ≤ 9 := by rw [pp2.len]; exact lp9
        rw [et] at ed
        have bnd : ∀ z ∈ ps, z.1 < 2 ^ 64 ∧ z.2 < 2 ^ 64 ∧ 0 < z.2 := fun z hz => ⟨(gp z hz).a, (gp z hz).b, (gp z hz).c⟩
        obtain ⟨lo1, lo2, _, _⟩ := low_prd_lt gp 9 lp9
        have fineD := (fine_pairs (ps := [low (prd ps), low (prd ps)]) (fun z hz => by
          simp only [List.mem_cons, List.not_mem_nil, or_false] at hz
          rcases hz with rfl | rfl <;> exact ⟨Nat.lt_of_lt_of_le lo1 (Nat.pow_le_pow_right (by omega) (by omega)), Nat.lt_of_lt_of_le lo2 (Nat.pow_le_pow_right (by omega) (by omega))⟩) (by show 2 ≤ 100; omega)).2
        refine ⟨_, rfl, _, ps, rfl, dpS f2 pp2 eT2, by omega, bnd, fun r1 H1 s1 n1 e1 => ?_⟩
        refine ⟨_, rfl, _, ps, rfl, dpS (f2.same s1) (pp2.mono (KeepT.same s1)) (s1 _ _ eT2), by omega, bnd, fun r2 H2 s2 n2 e2 => ?_⟩
        refine ⟨lst0 2 (by omega), fun p3 n3 => ?_⟩
        have s3 := same_new n3 (.lst [.ref r1, .ref r2])
        have pa : Dp K (upd H2 p3 (.lst [.ref r1, .ref r2])) (.ref r1) (prD (low (prd ps))) := dp_pair (.inl (.inl (s3 _ _ (s2 _ _ e1))))
        have pb : Dp K (upd H2 p3 (.lst [.ref r1, .ref r2])) (.ref r2) (prD (low (prd ps))) := dp_pair (.inl (.inl (s3 _ _ e2)))
        refine ⟨_, .list ([low (prd ps), low (prd ps)].map prD), rfl, .lst (.inl (.inl upd_same)) (.cons pa (.cons pb .nil)), fineD, ?_⟩
        have s13 := s1.trans (s2.trans s3)
        refine ⟨_, rfl, _, rfl, lst0 2 (by omega), fun p4 n4 => ?_⟩
        have s4 := same_new n4 (.lst [.ref dd, .ref dd])
        have pd : Dp K (upd (upd H2 p3 (.lst [.ref r1, .ref r2])) p4 (.lst [.ref dd, .ref dd])) (.ref dd) (prD (low (prd ps))) := dp_pair (.inl (.inl (s4 _ _ (s13 _ _ ed))))
        refine ⟨_, .list ([low (prd ps), low (prd ps)].map prD), rfl, .lst (.inl (.inl upd_same)) (.cons pd (.cons pd .nil)), fineD, ?_⟩
        have s14 := s13.trans s4
        refine ⟨rfl, _, rfl, ite2 (fun c2 => ?_) (fun c2 => ?_)⟩
        · exact absurd c2 (by rw [decide_eq_true rfl]; decide)
        · refine ⟨_, rfl, _, _, rfl, dpS (f2.same s14) (pp2.mono (KeepT.same s14)) (s14 _ _ eT2), fineS, _, rfl, rfl, _, rfl, ite2 (fun c3 => ?_) (fun c3 => ?_)⟩
          · exact absurd c3 (by rw [decide_eq_true rfl]; decide)
          · exact ⟨_, _, _, _, _, _, _, _, rfl, I2.mv f2 (Mv.same s14), (f2.same s14).mono (by omega), by omega⟩
  · -- for item in items
    obtain ⟨p, ds, y3, y4, y5, y6, y7, y8, rfl, I, fd, hlen⟩ := h
    obtain ⟨⟨xs, ex, ax⟩, ox⟩ := I
    have ax' := dpSameAll (off_same g H') _ _ ax
    refine ⟨_, rfl, p, rfl, ⟨_, .inl (.inl ex)⟩, for_list (K := K) (a := p) (xs := xs) (fun j σ Hz => ∃ y6 y9, σ = [some (.ref sa), some (.ref g), some (.ref p), y3, y4, y5, y6, y7, y8, y9, none] ∧ Same H' Hz) ⟨y6, none, rfl, Same.refl _⟩ (fun j σ Hz _ h => ?_) (fun j x σ Hz hx h => ?_) (fun σ Hz h => ?_)⟩
    · obtain ⟨_, _, _, sz⟩ := h
      exact .inl (.inl (sz _ _ ex))
    · obtain ⟨y6, y9, rfl, sz⟩ := h
      obtain ⟨d, hd, dx⟩ := DpAll_get ax' hx
      have od := ox d (List.mem_of_getElem? hd)
      have fd := od.fine (by omega)
      have dz := dpSame sz _ _ dx
      refine ⟨_, rfl, _, d, rfl, dz, fd, ?_⟩
      refine ⟨_, rfl, _, d, rfl, dz, _, rfl, _, d, rfl, dz, lst0 2 (by omega), fun p1 n1 => ?_⟩
      have s1 := same_new n1 (.lst [.bl (isFrac d), .bl (isFrac d)])
      have fb : Fine (.list [.bool (isFrac d), .bool (isFrac d)]) := ⟨by simp [PyData.showable, PyData.showableAll], by simp [PyData.depth, PyData.depthAll], by simp [Gl.sz, szAll]⟩
      refine ⟨_, .list [.bool (isFrac d), .bool (isFrac d)], rfl, .lst (.inl (.inl upd_same)) (.cons (.bl _) (.cons (.bl _) .nil)), fb, ?_⟩
      refine ⟨_, rfl, _, d, rfl, dpSame s1 _ _ dz, od.1, fun H2 s2 => ?_⟩
      refine ⟨lst0 1 (by omega), fun p2 n2 => ?_⟩
      have s3 := same_new n2 (.lst [.bl (isFrac d)])
      refine ⟨p2, 2, _, rfl, rfl, upd_same, by omega, by omega, lst0 2 (by omega), fun p3 n3 => ?_⟩
      have s4 := same_new n3 (.lst (List.replicate (Int.toNat 2) [V.bl (isFrac d)]).flatten)
      have e4 : (upd (upd H2 p2 (.lst [.bl (isFrac d)])) p3 (.lst (List.replicate (Int.toNat 2) [V.bl (isFrac d)]).flatten)) p3 = some (HO.lst [.bl (isFrac d), .bl (isFrac d)]) := upd_same
      refine ⟨_, .list [.bool (isFrac d), .bool (isFrac d)], rfl, .lst (.inl (.inl e4)) (.cons (.bl _) (.cons (.bl _) .nil)), fb, ?_⟩
      have s14 := s1.trans (s2.trans (s3.trans s4))
      refine ⟨rfl, _, rfl, ite2 (fun c2 => ?_) (fun c2 => ?_)⟩
      · exact absurd c2 (by rw [decide_eq_true rfl]; decide)
      · refine ⟨_, rfl, _, d, rfl, dpSame s14 _ _ dz, fd, _, rfl, rfl, _, rfl, ite2 (fun c3 => ?_) (fun c3 => ?_)⟩
        · exact absurd c3 (by rw [decide_eq_true rfl]; decide)
        · exact ⟨_, _, rfl, sz.trans s14⟩
    · obtain ⟨y6, y9, rfl, sz⟩ := h
      -- the end
      refine ⟨lst0 2 (by omega), fun t1 n1 => ?_⟩
      have s1 := same_new n1 (.tup [.int 1, .int 2])
      have e1 := @upd_same Hz t1 (.tup [.int 1, .int 2])
      refine ⟨lst0 1 (by omega), fun t2 n2 => ?_⟩
      have s2 := same_new n2 (.tup [.ref t1])
      refine ⟨t2, 40, _, rfl, rfl, .inl (.inl upd_same), (fun z => nomatch z), by omega, by omega, by show 1 ≤ 1000; omega, fun t3 n3 => ?_⟩
      have s3 := same_new n3 (.tup (List.replicate (Int.toNat 40) [V.ref t1]).flatten)
      have e3 := @upd_same (upd (upd Hz t1 (.tup [.int 1, .int 2])) t2 (.tup [.ref t1])) t3 (.tup (List.replicate (Int.toNat 40) [V.ref t1]).flatten)
      have pr : Dp K (upd (upd (upd Hz t1 (.tup [.int 1, .int 2])) t2 (.tup [.ref t1])) t3 (.tup (List.replicate (Int.toNat 40) [V.ref t1]).flatten)) (.ref t1) (prD (1, 2)) := dp_pair (.inl (.inl (s3 _ _ (s2 _ _ e1))))
      refine ⟨_, List.replicate 40 (1, 2), rfl, .tup (.inl (.inl e3)) (by rw [List.map_replicate]; exact rep_dp 40 pr), by rw [List.length_replicate]; omega, fun z hz => by rw [List.eq_of_mem_replicate hz]; decide, fun r4 H4 s4 n4 e4 => ?_⟩
      rw [low_rep] at e4
      refine ⟨_, _, rfl, rfl, ⟨by decide, by decide, by decide⟩, lst0 2 (by omega), fun t5 n5 => ?_⟩
      have s5 := same_new n5 (.tup [.int 1, .int (2 ^ (40 : Int).toNat)])
      have e5 := @upd_same H4 t5 (.tup [.int 1, .int (2 ^ (40 : Int).toNat)])
      have e40 : (2 : Int) ^ (40 : Int).toNat = ((2 ^ 40 : Nat) : Int) := by decide
      rw [e40] at e5
      refine ⟨prD (1, 2 ^ 40), prD (1, 2 ^ 40), dp_pair (.inl (.inl (s5 _ _ e4))), dp_pair (.inl (.inl e5)), rfl, rfl, ?_⟩
      rw [SeqAt.eqv_refl _ rfl]
      refine ⟨_, rfl, iteT ?_⟩
      refine ⟨Nat.zero_le _, fun t6 n6 => ?_⟩
      refine ⟨_, [], rfl, .tup (.inl (.inl upd_same)) .nil, by decide, (fun z hz => nomatch hz), fun r7 H7 s7 n7 e7 => ?_⟩
      rw [low_nil] at e7
      refine ⟨lst0 2 (by omega), fun t8 n8 => ?_⟩
      have s8 := same_new n8 (.tup [.int 1, .int 1])
      refine ⟨prD (1, 1), prD (1, 1), dp_pair (.inl (.inl (s8 _ _ e7))), dp_pair (.inl (.inl upd_same)), rfl, rfl, ?_⟩
      rw [SeqAt.eqv_refl _ rfl]
      exact q _
end
end K67

set_option maxHeartbeats 8000000
namespace K67
open PySem PySem.Spec PyProof.Rows L2 Gl
theorem bent0 {P : Program} {w : World} {K : PySem.W.Frag} {mg : Str → Option Value} {base : Heap} {f : Addr} {fd : FuncData} : FnOk P w K mg base CX0 0 f fd ["_law_feed_here", "_law_item"] (spBent K 0) := by
  have no : ∀ vs H Q E, ¬ spBent K 0 vs H Q E := fun vs H Q E ⟨_, _, _, _, _, _, _, _, _, h, _⟩ => h
  exact ⟨fun vs H Q E h => (no vs H Q E h).elim, fun A o s H a us vs Q E _ _ _ _ h => (no vs H Q E h).elim⟩
theorem all_mk {l : PySem.W.OpenLaw} {w : World} {K : PySem.W.Frag} {h : Heap} {mg : Str → Option Value} {fa : Addr} (X : K.In h) (G : h.Ns mainGlobals mg) (hfa : mg "law" = some (.ref fa))
    {f0 : Addr} {od0 an0 : Option Addr} {sl0 : Array (Option Value)} {oc0 kV0 dc0 pm0 cd0 ct0 : Value}
    (a0 : PySem.W.nsIn K mainGlobals "is_number" = some (some (.ref f0))) (l0 : K.lookup f0 = some ⟨oc0, od0, .func (PySem.W.fnOf "is_number" "is_number" (defArgs sNum) (defBody sNum) (defScope sNum) .none kV0 dc0 pm0 an0 cd0 ct0), sl0⟩) (c0 : PySem.W.codeIn K cd0 "is_number" = true) (k0 : PySem.W.keepIn K (.ref f0) = true)
    {f1 : Addr} {od1 an1 : Option Addr} {sl1 : Array (Option Value)} {oc1 kV1 dc1 pm1 cd1 ct1 : Value}
    (a1 : PySem.W.nsIn K mainGlobals "is_fraction" = some (some (.ref f1))) (l1 : K.lookup f1 = some ⟨oc1, od1, .func (PySem.W.fnOf "is_fraction" "is_fraction" (defArgs sFrac) (defBody sFrac) (defScope sFrac) .none kV1 dc1 pm1 an1 cd1 ct1), sl1⟩) (c1 : PySem.W.codeIn K cd1 "is_fraction" = true) (k1 : PySem.W.keepIn K (.ref f1) = true)
    {f2 : Addr} {od2 an2 : Option Addr} {sl2 : Array (Option Value)} {oc2 kV2 dc2 pm2 cd2 ct2 : Value}
    (a2 : PySem.W.nsIn K mainGlobals "product_of" = some (some (.ref f2))) (l2 : K.lookup f2 = some ⟨oc2, od2, .func (PySem.W.fnOf "product_of" "product_of" (defArgs sProd) (defBody sProd) (defScope sProd) .none kV2 dc2 pm2 an2 cd2 ct2), sl2⟩) (c2 : PySem.W.codeIn K cd2 "product_of" = true) (k2 : PySem.W.keepIn K (.ref f2) = true)
    {f3 : Addr} {od3 an3 : Option Addr} {sl3 : Array (Option Value)} {oc3 kV3 dc3 pm3 cd3 ct3 : Value}
    (a3 : PySem.W.nsIn K mainGlobals "one_less" = some (some (.ref f3))) (l3 : K.lookup f3 = some ⟨oc3, od3, .func (PySem.W.fnOf "one_less" "one_less" (defArgs sLess) (defBody sLess) (defScope sLess) .none kV3 dc3 pm3 an3 cd3 ct3), sl3⟩) (c3 : PySem.W.codeIn K cd3 "one_less" = true) (k3 : PySem.W.keepIn K (.ref f3) = true)
    {f4 : Addr} {od4 an4 : Option Addr} {sl4 : Array (Option Value)} {oc4 kV4 dc4 pm4 cd4 ct4 : Value}
    (a4 : PySem.W.nsIn K mainGlobals "_law_feed" = some (some (.ref f4))) (l4 : K.lookup f4 = some ⟨oc4, od4, .func (PySem.W.fnOf "_law_feed" "_law_feed" (defArgs sFeed) (defBody sFeed) (defScope sFeed) .none kV4 dc4 pm4 an4 cd4 ct4), sl4⟩) (c4 : PySem.W.codeIn K cd4 "_law_feed" = true) (k4 : PySem.W.keepIn K (.ref f4) = true)
    {f5 : Addr} {od5 an5 : Option Addr} {sl5 : Array (Option Value)} {oc5 kV5 dc5 pm5 cd5 ct5 : Value}
    (a5 : PySem.W.nsIn K mainGlobals "_law_draw" = some (some (.ref f5))) (l5 : K.lookup f5 = some ⟨oc5, od5, .func (PySem.W.fnOf "_law_draw" "_law_draw" (defArgs sDraw) (defBody sDraw) (defScope sDraw) .none kV5 dc5 pm5 an5 cd5 ct5), sl5⟩) (c5 : PySem.W.codeIn K cd5 "_law_draw" = true) (k5 : PySem.W.keepIn K (.ref f5) = true)
    {f6 : Addr} {od6 an6 : Option Addr} {sl6 : Array (Option Value)} {oc6 kV6 dc6 pm6 cd6 ct6 : Value}
    (a6 : PySem.W.nsIn K mainGlobals "_law_pick" = some (some (.ref f6))) (l6 : K.lookup f6 = some ⟨oc6, od6, .func (PySem.W.fnOf "_law_pick" "_law_pick" (defArgs sPick) (defBody sPick) (defScope sPick) .none kV6 dc6 pm6 an6 cd6 ct6), sl6⟩) (c6 : PySem.W.codeIn K cd6 "_law_pick" = true) (k6 : PySem.W.keepIn K (.ref f6) = true)
    {f7 : Addr} {od7 an7 : Option Addr} {sl7 : Array (Option Value)} {oc7 kV7 dc7 pm7 cd7 ct7 : Value}
    (a7 : PySem.W.nsIn K mainGlobals "_law_is_counted" = some (some (.ref f7))) (l7 : K.lookup f7 = some ⟨oc7, od7, .func (PySem.W.fnOf "_law_is_counted" "_law_is_counted" (defArgs sCnt) (defBody sCnt) (defScope sCnt) .none kV7 dc7 pm7 an7 cd7 ct7), sl7⟩) (c7 : PySem.W.codeIn K cd7 "_law_is_counted" = true) (k7 : PySem.W.keepIn K (.ref f7) = true)
    {f8 : Addr} {od8 an8 : Option Addr} {sl8 : Array (Option Value)} {oc8 kV8 dc8 pm8 cd8 ct8 : Value}
    (a8 : PySem.W.nsIn K mainGlobals "_law_bent" = some (some (.ref f8))) (l8 : K.lookup f8 = some ⟨oc8, od8, .func (PySem.W.fnOf "_law_bent" "_law_bent" (defArgs sBent) (defBody sBent) (defScope sBent) .none kV8 dc8 pm8 an8 cd8 ct8), sl8⟩) (c8 : PySem.W.codeIn K cd8 "_law_bent" = true) (k8 : PySem.W.keepIn K (.ref f8) = true)
    {f9 : Addr} {od9 an9 : Option Addr} {sl9 : Array (Option Value)} {oc9 kV9 dc9 pm9 cd9 ct9 : Value}
    (a9 : PySem.W.nsIn K mainGlobals "_law_parted" = some (some (.ref f9))) (l9 : K.lookup f9 = some ⟨oc9, od9, .func (PySem.W.fnOf "_law_parted" "_law_parted" (defArgs sPart) (defBody sPart) (defScope sPart) .none kV9 dc9 pm9 an9 cd9 ct9), sl9⟩) (c9 : PySem.W.codeIn K cd9 "_law_parted" = true) (k9 : PySem.W.keepIn K (.ref f9) = true)
    {f10 : Addr} {od10 an10 : Option Addr} {sl10 : Array (Option Value)} {oc10 kV10 dc10 pm10 cd10 ct10 : Value}
    (a10 : PySem.W.nsIn K mainGlobals "_law_figure" = some (some (.ref f10))) (l10 : K.lookup f10 = some ⟨oc10, od10, .func (PySem.W.fnOf "_law_figure" "_law_figure" (defArgs sFig) (defBody sFig) (defScope sFig) .none kV10 dc10 pm10 an10 cd10 ct10), sl10⟩) (c10 : PySem.W.codeIn K cd10 "_law_figure" = true) (k10 : PySem.W.keepIn K (.ref f10) = true)
    {f11 : Addr} {od11 an11 : Option Addr} {sl11 : Array (Option Value)} {oc11 kV11 dc11 pm11 cd11 ct11 : Value}
    (a11 : PySem.W.nsIn K mainGlobals "_law_is_part" = some (some (.ref f11))) (l11 : K.lookup f11 = some ⟨oc11, od11, .func (PySem.W.fnOf "_law_is_part" "_law_is_part" (defArgs sIsp) (defBody sIsp) (defScope sIsp) .none kV11 dc11 pm11 an11 cd11 ct11), sl11⟩) (c11 : PySem.W.codeIn K cd11 "_law_is_part" = true) (k11 : PySem.W.keepIn K (.ref f11) = true)
    {f12 : Addr} {od12 an12 : Option Addr} {sl12 : Array (Option Value)} {oc12 kV12 dc12 pm12 cd12 ct12 : Value}
    (a12 : PySem.W.nsIn K mainGlobals "law" = some (some (.ref f12))) (l12 : K.lookup f12 = some ⟨oc12, od12, .func (PySem.W.fnOf "law" "law" (defArgs sLaw) (defBody sLaw) (defScope sLaw) .none kV12 dc12 pm12 an12 cd12 ct12), sl12⟩) (c12 : PySem.W.codeIn K cd12 "law" = true) (k12 : PySem.W.keepIn K (.ref f12) = true)
    (z_isinstance : PySem.W.nsIn K mainGlobals "isinstance" = some none)
    (z_int : PySem.W.nsIn K mainGlobals "int" = some none)
    (z_bool : PySem.W.nsIn K mainGlobals "bool" = some none)
    (z_tuple : PySem.W.nsIn K mainGlobals "tuple" = some none)
    (z_len : PySem.W.nsIn K mainGlobals "len" = some none)
    (z_list : PySem.W.nsIn K mainGlobals "list" = some none)
    (z_range : PySem.W.nsIn K mainGlobals "range" = some none)
    (z_repr : PySem.W.nsIn K mainGlobals "repr" = some none)
    (v_gcd : PySem.W.nsIn K mainGlobals "gcd" = some (some (.builtin "math.gcd")))
    : ∃ fd : FuncData, (∀ (s : Shared) (v : Value), BindsTo s fd ⟨[v], []⟩ [("_law_script", v)]) ∧ ∀ base : Heap, K.In base → base.Ns mainGlobals mg → OkG l.prog w K mg base CX0 5 fa fd ["_law_script"] (spLaw K) := by
  have e := hfa.symm.trans (PySem.W.mg_of X G a12)
  cases e
  have Fnum := fun_mk (st := sNum) l0 c0 k0
  have mnum := PySem.W.mg_of X G a0
  have knum := k0
  have bnum := Fnum.binds (ps := ["thing"]) fun _ _ _ _ _ _ us hl => match us, hl with | [_], _ => rfl
  have Ffrac := fun_mk (st := sFrac) l1 c1 k1
  have mfrac := PySem.W.mg_of X G a1
  have kfrac := k1
  have bfrac := Ffrac.binds (ps := ["thing"]) fun _ _ _ _ _ _ us hl => match us, hl with | [_], _ => rfl
  have bfrac_t := kbOf (ps := ["thing"]) (ks := ["thing"]) Ffrac fun _ _ _ _ _ _ us ws hl => match us, ws, hl with | [], [_], _ => rfl | [_], [], _ => rfl
  have Fprod := fun_mk (st := sProd) l2 c2 k2
  have mprod := PySem.W.mg_of X G a2
  have kprod := k2
  have bprod := Fprod.binds (ps := ["fractions"]) fun _ _ _ _ _ _ us hl => match us, hl with | [_], _ => rfl
  have bprod_f := kbOf (ps := ["fractions"]) (ks := ["fractions"]) Fprod fun _ _ _ _ _ _ us ws hl => match us, ws, hl with | [], [_], _ => rfl | [_], [], _ => rfl
  have Fless := fun_mk (st := sLess) l3 c3 k3
  have mless := PySem.W.mg_of X G a3
  have kless := k3
  have bless := Fless.binds (ps := ["fraction"]) fun _ _ _ _ _ _ us hl => match us, hl with | [_], _ => rfl
  have bless_f := kbOf (ps := ["fraction"]) (ks := ["fraction"]) Fless fun _ _ _ _ _ _ us ws hl => match us, ws, hl with | [], [_], _ => rfl | [_], [], _ => rfl
  have Ffeed := fun_mk (st := sFeed) l4 c4 k4
  have mfeed := PySem.W.mg_of X G a4
  have kfeed := k4
  have bfeed := Ffeed.binds (ps := ["_law_script"]) fun _ _ _ _ _ _ us hl => match us, hl with | [_], _ => rfl
  have Fdraw := fun_mk (st := sDraw) l5 c5 k5
  have mdraw := PySem.W.mg_of X G a5
  have kdraw := k5
  have bdraw := Fdraw.binds (ps := ["_law_feed_here", "_law_size"]) fun _ _ _ _ _ _ us hl => match us, hl with | [_, _], _ => rfl
  have Fpick := fun_mk (st := sPick) l6 c6 k6
  have mpick := PySem.W.mg_of X G a6
  have kpick := k6
  have bpick := Fpick.binds (ps := ["_law_feed_here", "_law_some"]) fun _ _ _ _ _ _ us hl => match us, hl with | [_, _], _ => rfl
  have Fcnt := fun_mk (st := sCnt) l7 c7 k7
  have mcnt := PySem.W.mg_of X G a7
  have kcnt := k7
  have bcnt := Fcnt.binds (ps := ["_law_item"]) fun _ _ _ _ _ _ us hl => match us, hl with | [_], _ => rfl
  have Fbent := fun_mk (st := sBent) l8 c8 k8
  have mbent := PySem.W.mg_of X G a8
  have kbent := k8
  have bbent := Fbent.binds (ps := ["_law_feed_here", "_law_item"]) fun _ _ _ _ _ _ us hl => match us, hl with | [_, _], _ => rfl
  have Fpart := fun_mk (st := sPart) l9 c9 k9
  have mpart := PySem.W.mg_of X G a9
  have kpart := k9
  have bpart := Fpart.binds (ps := ["_law_over", "_law_under"]) fun _ _ _ _ _ _ us hl => match us, hl with | [_, _], _ => rfl
  have Ffig := fun_mk (st := sFig) l10 c10 k10
  have mfig := PySem.W.mg_of X G a10
  have kfig := k10
  have bfig := Ffig.binds (ps := ["_law_feed_here"]) fun _ _ _ _ _ _ us hl => match us, hl with | [_], _ => rfl
  have Fisp := fun_mk (st := sIsp) l11 c11 k11
  have misp := PySem.W.mg_of X G a11
  have kisp := k11
  have bisp := Fisp.binds (ps := ["_law_item"]) fun _ _ _ _ _ _ us hl => match us, hl with | [_], _ => rfl
  have Flaw := fun_mk (st := sLaw) l12 c12 k12
  have mlaw := PySem.W.mg_of X G a12
  have klaw := k12
  have misinstance := PySem.W.mg_none_of X G z_isinstance
  have mint := PySem.W.mg_none_of X G z_int
  have mbool := PySem.W.mg_none_of X G z_bool
  have mtuple := PySem.W.mg_none_of X G z_tuple
  have mlen := PySem.W.mg_none_of X G z_len
  have mlist := PySem.W.mg_none_of X G z_list
  have mrange := PySem.W.mg_none_of X G z_range
  have mrepr := PySem.W.mg_none_of X G z_repr
  have mgcd := PySem.W.mg_of X G v_gcd
  refine ⟨PySem.W.fnOf "law" "law" (defArgs sLaw) (defBody sLaw) (defScope sLaw) .none kV12 dc12 pm12 an12 cd12 ct12, fun s v => .of_eq rfl, fun base _ _ => ?_⟩
  have Gnum := ok_num (P := l.prog) (w := w) (base := base) (k := 0) Fnum misinstance mint mbool
  have Gcnt := ok_cnt (P := l.prog) (w := w) (base := base) (k := 0) Fcnt misinstance mint mbool
  have Gfrac := ok_frac Ffrac Gnum mnum knum bnum misinstance mtuple mlen mgcd
  have Gprod := ok_prod (P := l.prog) (w := w) (base := base) (k := 0) Fprod mgcd
  have Gless := ok_less (P := l.prog) (w := w) (mg := mg) (base := base) (k := 0) Fless
  have Gfeed := ok_feed (P := l.prog) (w := w) (base := base) (k := 0) Ffeed mlist
  have Gdraw := ok_draw (P := l.prog) (w := w) (base := base) (k := 0) Fdraw mlen
  have Gpick := ok_pick Fpick Gdraw mdraw kdraw bdraw mlen
  have Gfig := ok_fig Ffig Gdraw mdraw kdraw bdraw
  have Gpart := ok_part (P := l.prog) (w := w) (mg := mg) (base := base) (k := 0) Fpart
  have Gisp := ok_isp Fisp Gcnt mcnt kcnt bcnt misinstance mtuple mlen Gpart mpart kpart bpart
  have Gb0 := bent0 (P := l.prog) (w := w) (K := K) (mg := mg) (base := base) (f := f8) (fd := PySem.W.fnOf "_law_bent" "_law_bent" (defArgs sBent) (defBody sBent) (defScope sBent) .none kV8 dc8 pm8 an8 cd8 ct8)
  have Gb1 := ok_bent Fbent (Gdraw.mono (k := 2) (by omega)) mdraw kdraw bdraw Gpick mpick kpick bpick (Gb0.mono (by omega)) mbent kbent bbent misinstance mtuple mint mbool mlen mlist
  have Gb2 := ok_bent Fbent (Gdraw.mono (k := 3) (by omega)) mdraw kdraw bdraw (Gpick.mono (by omega)) mpick kpick bpick Gb1 mbent kbent bbent misinstance mtuple mint mbool mlen mlist
  exact ok_law Flaw (Gfeed.mono (k := 4) (by omega)) mfeed kfeed bfeed (Gdraw.mono (by omega)) mdraw kdraw bdraw (Gfig.mono (by omega)) mfig kfig bfig (Gpart.mono (by omega)) mpart kpart bpart Gb2 mbent kbent bbent (Gless.mono (by omega)) mless kless bless bless_f (Gprod.mono (by omega)) mprod kprod bprod bprod_f (Gfrac.mono (by omega)) mfrac kfrac bfrac bfrac_t (Gisp.mono (by omega)) misp kisp bisp mrange mtuple mrepr
end K67
open PySem PySem.W PyProof.Rows
set_option maxHeartbeats 0 in
theorem PySem.Challenge.cw_metbefore_k67_fractions_told_holds : PySem.Challenge.rw_metbefore_k67_fractions_told.Holds := by
  w_on; o_law; k_head; (case hw => w_witness2)
  k_fill
  refine Gl.walkG (l := PySem.Challenge.rw_metbefore_k67_fractions_told) (n := 63) (k := 5) (x := "_law_script") (sp := fun w => K67.spLaw _) rfl (by decide) rfl ⟨rfl, by decide, by decide⟩ (fun w h Y => PySem.W.kIn_of Y) ?F (fun _ _ a ns hl _ hS => ⟨a, ns, rfl, hS, hl, fun _ => rfl⟩)
  case F =>
    intro w mg fa h KX G hmg
    refine' K67.all_mk KX G hmg ?a0 ?l0 ?c0 ?k0 ?a1 ?l1 ?c1 ?k1 ?a2 ?l2 ?c2 ?k2 ?a3 ?l3 ?c3 ?k3 ?a4 ?l4 ?c4 ?k4 ?a5 ?l5 ?c5 ?k5 ?a6 ?l6 ?c6 ?k6 ?a7 ?l7 ?c7 ?k7 ?a8 ?l8 ?c8 ?k8 ?a9 ?l9 ?c9 ?k9 ?a10 ?l10 ?c10 ?k10 ?a11 ?l11 ?c11 ?k11 ?a12 ?l12 ?c12 ?k12 ?z_isinstance ?z_int ?z_bool ?z_tuple ?z_len ?z_list ?z_range ?z_repr ?v_gcd
    (case a0 => k_is)
    (case l0 => k_is)
    (case c0 => k_is)
    (case k0 => k_is)
    (case a1 => k_is)
    (case l1 => k_is)
    (case c1 => k_is)
    (case k1 => k_is)
    (case a2 => k_is)
    (case l2 => k_is)
    (case c2 => k_is)
    (case k2 => k_is)
    (case a3 => k_is)
    (case l3 => k_is)
    (case c3 => k_is)
    (case k3 => k_is)
    (case a4 => k_is)
    (case l4 => k_is)
    (case c4 => k_is)
    (case k4 => k_is)
    (case a5 => k_is)
    (case l5 => k_is)
    (case c5 => k_is)
    (case k5 => k_is)
    (case a6 => k_is)
    (case l6 => k_is)
    (case c6 => k_is)
    (case k6 => k_is)
    (case a7 => k_is)
    (case l7 => k_is)
    (case c7 => k_is)
    (case k7 => k_is)
    (case a8 => k_is)
    (case l8 => k_is)
    (case c8 => k_is)
    (case k8 => k_is)
    (case a9 => k_is)
    (case l9 => k_is)
    (case c9 => k_is)
    (case k9 => k_is)
    (case a10 => k_is)
    (case l10 => k_is)
    (case c10 => k_is)
    (case k10 => k_is)
    (case a11 => k_is)
    (case l11 => k_is)
    (case c11 => k_is)
    (case k11 => k_is)
    (case a12 => k_is)
    (case l12 => k_is)
    (case c12 => k_is)
    (case k12 => k_is)
    (case z_isinstance => k_is)
    (case z_int => k_is)
    (case z_bool => k_is)
    (case z_tuple => k_is)
    (case z_len => k_is)
    (case z_list => k_is)
    (case z_range => k_is)
    (case z_repr => k_is)
    (case v_gcd => k_is)
