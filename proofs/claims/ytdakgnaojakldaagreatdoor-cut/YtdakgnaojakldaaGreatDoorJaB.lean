/- Several texts in one, each with its own opening remark. -/
import Derived.Test.YtdakgnaojakldaaGreatDoorJaA
/- Plain mathematics of the reference's machine that reads a text byte by byte. -/
namespace Go.Proofs.YtdakgnaojakldaaGreatDoor
namespace Ref

/-- A value that was read. -/
structure Node where
  kind : Int
  text : ByteArray
  names : List ByteArray
  kids : List Nat

/-- The machine. -/
structure Mach where
  state : Int
  opn : List Nat
  nodes : List Node
  named : Bool
  got : ByteArray
  need : Int
  low : Int
  high : Int
  number : Int
  word : ByteArray
  root : Int

def blankB (b : Int) : Bool := decide (b = 32 ∨ b = 9 ∨ b = 10 ∨ b = 13)

def hexN (b : Int) : Int :=
  if 48 ≤ b ∧ b ≤ 57 then b - 48 else if 97 ≤ b ∧ b ≤ 102 then b - 97 + 10 else if 65 ≤ b ∧ b ≤ 70 then b - 65 + 10 else -1

/-- One byte as a text. -/
def one (b : Int) : ByteArray := ⟨#[UInt8.ofNat b.toNat]⟩

/-- The character of a number below 65536. -/
def enc (n : Int) : ByteArray :=
  if n < 128 then one n else if n < 2048 then ⟨#[UInt8.ofNat (192 + n / 64).toNat, UInt8.ofNat (128 + n % 64).toNat]⟩
  else ⟨#[UInt8.ofNat (224 + n / 4096).toNat, UInt8.ofNat (128 + n / 64 % 64).toNat, UInt8.ofNat (128 + n % 64).toNat]⟩

def addKid (o k : Nat) (l : List Node) : List Node := l.modify o fun n => { n with kids := n.kids ++ [k] }
def addName (o : Nat) (s : ByteArray) (l : List Node) : List Node := l.modify o fun n => { n with names := n.names ++ [s] }

/-- A value joins what is open. -/
def lay (m : Mach) (n : Node) : Mach :=
  if m.opn = [] then { m with nodes := m.nodes ++ [n], root := m.nodes.length } else { m with nodes := addKid (m.opn.getLastD 0) m.nodes.length (m.nodes ++ [n]) }

def topKind (m : Mach) : Int := ((m.nodes[m.opn.getLastD 0]?).map Node.kind).getD 0

def begin_ (m : Mach) (b : Int) : Int × Mach :=
  if b = 123 ∨ b = 91 then
    if 8 ≤ m.opn.length then (3, m)
    else
      let m1 := lay { m with state := if b = 91 then 2 else 3 } { kind := if b = 91 then 2 else 1, text := ⟨#[]⟩, names := [], kids := [] }
      (0, { m1 with opn := m.opn ++ [m.nodes.length] })
  else if b = 34 then (0, { m with state := 8, named := false, got := ⟨#[]⟩ })
  else if b = 116 then (0, { lay m { kind := 4, text := ⟨#[]⟩, names := [], kids := [] } with state := 7, word := ⟨#[114, 117, 101]⟩ })
  else if b = 102 then (0, { lay m { kind := 5, text := ⟨#[]⟩, names := [], kids := [] } with state := 7, word := ⟨#[97, 108, 115, 101]⟩ })
  else (2, m)

def end_ (m : Mach) (b : Int) : Int × Mach :=
  if m.opn = [] then (2, m) else if (topKind m == 1) != (b == 125) then (2, m) else (0, { m with opn := m.opn.dropLast, state := 6 })

def after (m : Mach) (b : Int) : Int × Mach :=
  if m.state = 5 ∧ b = 58 then (0, { m with state := 1 })
  else if m.state = 5 ∨ m.opn = [] then (2, m)
  else if b = 125 ∨ b = 93 then end_ m b
  else if b ≠ 44 then (2, m)
  else (0, { m with state := if topKind m = 1 then 4 else 1 })

def topNames (m : Mach) : List ByteArray := ((m.nodes[m.opn.getLastD 0]?).map Node.names).getD []

def closed (m : Mach) : Int × Mach :=
  if m.named = false then (0, { lay m { kind := 3, text := m.got, names := [], kids := [] } with state := 6 })
  else if (topNames m).any (fun s => s.toList == m.got.toList) then (4, m)
  else (0, { m with nodes := addName (m.opn.getLastD 0) m.got m.nodes, state := 5 })

def plain (m : Mach) (b : Int) : Int × Mach :=
  if b = 34 then closed m
  else if b = 92 then (0, { m with state := 10 })
  else if b < 32 then (2, m)
  else if b < 128 then (0, { m with got := m.got ++ one b })
  else if (leadN b).1 = 0 then (2, m)
  else (0, { m with need := (leadN b).1, low := (leadN b).2.1, high := (leadN b).2.2, got := m.got ++ one b, state := 9 })

def escape (m : Mach) (b : Int) : Int × Mach :=
  if b = 34 ∨ b = 92 ∨ b = 47 then (0, { m with state := 8, got := m.got ++ one b })
  else if b = 110 then (0, { m with state := 8, got := m.got ++ one 10 })
  else if b = 116 then (0, { m with state := 8, got := m.got ++ one 9 })
  else if b = 117 then (0, { m with state := 11, need := 4, number := 0 })
  else (2, m)

def digit (m : Mach) (b : Int) : Int × Mach :=
  if hexN b < 0 then (2, m)
  else if m.need - 1 = 2 ∧ 216 ≤ 16 * m.number + hexN b ∧ 16 * m.number + hexN b ≤ 223 then (2, m)
  else if m.need - 1 = 0 then (0, { m with number := 16 * m.number + hexN b, need := m.need - 1, got := m.got ++ enc (16 * m.number + hexN b), state := 8 })
  else (0, { m with number := 16 * m.number + hexN b, need := m.need - 1 })

/-- One byte. -/
def step (m : Mach) (b : Int) : Int × Mach :=
  if m.state = 8 then plain m b
  else if m.state = 9 then
    if b < m.low ∨ m.high < b then (2, m) else (0, { m with got := m.got ++ one b, low := 128, high := 191, need := m.need - 1, state := if m.need - 1 = 0 then 8 else m.state })
  else if m.state = 10 then escape m b
  else if m.state = 11 then digit m b
  else if m.state = 7 then
    if b ≠ ((m.word.data.toList.getD 0 0).toNat : Int) then (2, m) else (0, { m with word := m.word.extract 1 m.word.size, state := if m.word.size = 1 then 6 else m.state })
  else if blankB b then (0, m)
  else if m.state = 6 ∨ m.state = 5 then after m b
  else if (m.state = 2 ∧ b = 93) ∨ (m.state = 3 ∧ b = 125) then end_ m b
  else if m.state = 3 ∨ m.state = 4 then (if b ≠ 34 then (2, m) else (0, { m with state := 8, named := true, got := ⟨#[]⟩ }))
  else begin_ m b

theorem strCells_get' (l : List ByteArray) (j : Nat) (h : j < l.length) : (strCells l)[j]? = some (.string l[j]) := by
  simp [strCells, h]

end Ref
end Go.Proofs.YtdakgnaojakldaaGreatDoor

/- Plain mathematics of the reference's machine: its step by its state; what stays well formed. -/
namespace Go.Proofs.YtdakgnaojakldaaGreatDoor
namespace Ref

theorem step_8 (m : Mach) (x : Int) (h : m.state = 8) : step m x = plain m x := by unfold step; rw [if_pos h]
theorem step_9 (m : Mach) (x : Int) (h : m.state = 9) : step m x = if x < m.low ∨ m.high < x then (2, m) else (0, { m with got := m.got ++ one x, low := 128, high := 191, need := m.need - 1, state := if m.need - 1 = 0 then 8 else 9 }) := by
  unfold step; rw [if_neg (by omega), if_pos h, h]
theorem step_10 (m : Mach) (x : Int) (h : m.state = 10) : step m x = escape m x := by unfold step; rw [if_neg (by omega), if_neg (by omega), if_pos h]
theorem step_11 (m : Mach) (x : Int) (h : m.state = 11) : step m x = digit m x := by unfold step; rw [if_neg (by omega), if_neg (by omega), if_neg (by omega), if_pos h]
theorem step_7 (m : Mach) (x : Int) (h : m.state = 7) : step m x = if x ≠ ((m.word.data.toList.getD 0 0).toNat : Int) then (2, m) else (0, { m with word := m.word.extract 1 m.word.size, state := if m.word.size = 1 then 6 else 7 }) := by
  unfold step; rw [if_neg (by omega), if_neg (by omega), if_neg (by omega), if_neg (by omega), if_pos h, h]
theorem step_low (m : Mach) (x : Int) (h : m.state < 7) : step m x = if blankB x then (0, m)
  else if m.state = 6 ∨ m.state = 5 then after m x
  else if (m.state = 2 ∧ x = 93) ∨ (m.state = 3 ∧ x = 125) then end_ m x
  else if m.state = 3 ∨ m.state = 4 then (if x ≠ 34 then (2, m) else (0, { m with state := 8, named := true, got := ⟨#[]⟩ }))
  else begin_ m x := by
  unfold step; rw [if_neg (by omega), if_neg (by omega), if_neg (by omega), if_neg (by omega), if_neg (by omega)]

/-- What holds of the machine between two bytes. -/
structure Wf (m : Mach) : Prop where
  lo : 1 ≤ m.state
  hi : m.state ≤ 11
  named : 8 ≤ m.state → m.named = true → m.opn ≠ []
  word : m.state = 7 → 1 ≤ m.word.size
  need9 : m.state = 9 → 1 ≤ m.need ∧ m.need ≤ 3 ∧ 0 ≤ m.low ∧ m.low ≤ 255 ∧ 0 ≤ m.high ∧ m.high ≤ 255
  need11 : m.state = 11 → 1 ≤ m.need ∧ m.need ≤ 4 ∧ 0 ≤ m.number ∧ m.number ≤ 4095 ∧ (m.need = 4 → m.number = 0) ∧ (m.need = 3 → m.number ≤ 15) ∧ (m.need = 2 → m.number ≤ 255)
  opens : 3 ≤ m.state → m.state ≤ 5 → m.opn ≠ []
  small : m.word.size ≤ 10

end Ref
end Go.Proofs.YtdakgnaojakldaaGreatDoor

/- Plain mathematics of the reference's machine: what stays well formed and bounded; the run over a text. -/
namespace Go.Proofs.YtdakgnaojakldaaGreatDoor
namespace Ref

structure Bnd (n : Nat) (m : Mach) : Prop where
  nodes : m.nodes.length ≤ n
  opn : m.opn.length ≤ n
  kids : ∀ (i : Nat) (d : Node), m.nodes[i]? = some d → d.kids.length ≤ n ∧ d.names.length ≤ n
  got : m.got.size ≤ 3 * n
  top : ∀ o ∈ m.opn, o < m.nodes.length

theorem Bnd.like {n : Nat} {m m' : Mach} (h : Bnd n m) (ho : m'.opn = m.opn) (hn : m'.nodes = m.nodes) (hg : m'.got.size ≤ 3 * n) : Bnd n m' :=
  ⟨by rw [hn]; exact h.nodes, by rw [ho]; exact h.opn, by rw [hn]; exact h.kids, hg, by rw [ho, hn]; exact h.top⟩

theorem Bnd.succ {n : Nat} {m m' : Mach} (h : Bnd n m) (ho : m'.opn = m.opn) (hn : m'.nodes = m.nodes) (hg : m'.got.size ≤ m.got.size + 3) : Bnd (n + 1) m' := by
  have h1 := h.nodes
  have h2 := h.opn
  have h3 := h.got
  exact ⟨by rw [hn]; omega, by rw [ho]; omega, by rw [hn]; intro i d hd; have := h.kids i d hd; omega, by omega, by rw [ho, hn]; exact h.top⟩

theorem modify_cases {α : Type} (l : List α) (f : α → α) (o i : Nat) (d : α) (h : (l.modify o f)[i]? = some d) : l[i]? = some d ∨ ∃ c, l[i]? = some c ∧ d = f c := by
  rw [List.getElem?_modify] at h
  by_cases e : o = i
  · subst e
    simp only [if_true] at h
    cases hc : l[o]? with
    | none => rw [hc] at h; simp at h
    | some c => rw [hc] at h; simp at h; exact .inr ⟨c, rfl, h.symm⟩
  · simp [e] at h
    exact .inl h

theorem lay_bnd {n : Nat} {m : Mach} (h : Bnd n m) (d : Node) (hd : d.names = []) (hk : d.kids = []) : Bnd (n + 1) (lay m d) := by
  have h1 := h.nodes
  have h2 := h.opn
  have h3 := h.got
  have base : ∀ (i : Nat) (e : Node), (m.nodes ++ [d])[i]? = some e → e.kids.length ≤ n ∧ e.names.length ≤ n := by
    intro i e he
    rw [List.getElem?_append] at he
    split at he
    · exact h.kids i e he
    · have := List.mem_of_getElem? he
      simp only [List.mem_singleton] at this
      subst this
      rw [hd, hk]; simp
  unfold lay
  split
  · refine ⟨by simp; omega, by simp only; omega, ?_, by simp only; omega, ?_⟩
    · intro i e he
      have := base i e he
      omega
    · intro o ho
      have := h.top o ho
      simp; omega
  · refine ⟨by simp [addKid]; omega, by simp only; omega, ?_, by simp only; omega, ?_⟩
    · intro i e he
      rcases modify_cases _ _ _ _ _ he with hc | ⟨c, hc, rfl⟩
      · have := base i e hc; omega
      · have := base i c hc; simp; omega
    · intro o ho
      have := h.top o ho
      simp [addKid]; omega

theorem lay_opn' (m : Mach) (d : Node) : (lay m d).opn = m.opn := by unfold lay; split <;> rfl
theorem lay_got (m : Mach) (d : Node) : (lay m d).got = m.got := by unfold lay; split <;> rfl
theorem lay_len (m : Mach) (d : Node) : (lay m d).nodes.length = m.nodes.length + 1 := by unfold lay; split <;> simp [addKid]
theorem lay_named (m : Mach) (d : Node) : (lay m d).named = m.named := by unfold lay; split <;> rfl
theorem lay_state (m : Mach) (d : Node) : (lay m d).state = m.state := by unfold lay; split <;> rfl
theorem lay_word (m : Mach) (d : Node) : (lay m d).word = m.word := by unfold lay; split <;> rfl

theorem end_bnd {n : Nat} {m : Mach} (h : Bnd n m) (x : Int) (he : (end_ m x).1 = 0) : Bnd (n + 1) (end_ m x).2 := by
  have h1 := h.nodes
  have h2 := h.opn
  have h3 := h.got
  unfold end_ at he ⊢
  split at he
  · simp at he
  split at he
  · simp at he
  rename_i a b
  rw [if_neg a, if_neg b]
  refine ⟨by simp only; omega, by simp only [List.length_dropLast]; omega, fun i d hd => by have := h.kids i d hd; omega, by simp only; omega, fun o ho => h.top o (List.dropLast_subset _ ho)⟩

theorem one_size (x : Int) : (one x).size = 1 := rfl
theorem enc_size (x : Int) : (enc x).size ≤ 3 := by unfold enc one; split <;> (try split) <;> simp [ByteArray.size]

theorem after_bnd {n : Nat} {m : Mach} (h : Bnd n m) (x : Int) (he : (after m x).1 = 0) : Bnd (n + 1) (after m x).2 := by
  unfold after at he ⊢
  split at he
  · rename_i a; rw [if_pos a]; exact h.succ rfl rfl (by simp)
  split at he
  · simp at he
  split at he
  · rename_i a b c; rw [if_neg a, if_neg b, if_pos c]; exact end_bnd h x he
  split at he
  · simp at he
  · rename_i a b c d; rw [if_neg a, if_neg b, if_neg c, if_neg d]; exact h.succ rfl rfl (by simp)

theorem begin_bnd {n : Nat} {m : Mach} (h : Bnd n m) (x : Int) (he : (begin_ m x).1 = 0) : Bnd (n + 1) (begin_ m x).2 := by
  have h2 := h.opn
  unfold begin_ at he ⊢
  split at he
  · rename_i a
    rw [if_pos a]
    split at he
    · simp at he
    rename_i b
    rw [if_neg b]
    have hl := lay_bnd (m := { m with state := if x = 91 then 2 else 3 }) (h.like rfl rfl h.got) { kind := if x = 91 then 2 else 1, text := ⟨#[]⟩, names := [], kids := [] } rfl rfl
    refine ⟨hl.nodes, by simp; omega, hl.kids, hl.got, ?_⟩
    intro o ho
    simp only [List.mem_append, List.mem_singleton] at ho
    rw [lay_len]
    rcases ho with ho | rfl
    · have := h.top o ho; simp only; omega
    · simp
  rename_i a
  rw [if_neg a]
  split at he
  · rename_i b; rw [if_pos b]; exact h.succ rfl rfl (Nat.zero_le _)
  rename_i b
  rw [if_neg b]
  split at he
  · rename_i c
    rw [if_pos c]
    have hl := lay_bnd h { kind := 4, text := ⟨#[]⟩, names := [], kids := [] } rfl rfl
    exact hl.like rfl rfl hl.got
  rename_i c
  rw [if_neg c]
  split at he
  · rename_i d
    rw [if_pos d]
    have hl := lay_bnd h { kind := 5, text := ⟨#[]⟩, names := [], kids := [] } rfl rfl
    exact hl.like rfl rfl hl.got
  · simp at he

theorem closed_bnd {n : Nat} {m : Mach} (h : Bnd n m) (he : (closed m).1 = 0) : Bnd (n + 1) (closed m).2 := by
  unfold closed at he ⊢
  split at he
  · rename_i a
    rw [if_pos a]
    have hl := lay_bnd h { kind := 3, text := m.got, names := [], kids := [] } rfl rfl
    exact hl.like rfl rfl hl.got
  split at he
  · simp at he
  rename_i a b
  rw [if_neg a, if_neg b]
  have h1 := h.nodes
  have h2 := h.opn
  have h3 := h.got
  refine ⟨by simp [addName]; omega, by simp only; omega, ?_, by simp only; omega, ?_⟩
  · intro i e hd
    rcases modify_cases _ _ _ _ _ hd with hc | ⟨c, hc, rfl⟩
    · have := h.kids i e hc; omega
    · have := h.kids i c hc; simp; omega
  · intro o ho
    have := h.top o ho
    simp [addName]; omega

theorem plain_bnd {n : Nat} {m : Mach} (h : Bnd n m) (x : Int) (he : (plain m x).1 = 0) : Bnd (n + 1) (plain m x).2 := by
  unfold plain at he ⊢
  split at he
  · rename_i a; rw [if_pos a]; exact closed_bnd h he
  rename_i a
  rw [if_neg a]
  split at he
  · rename_i b; rw [if_pos b]; exact h.succ rfl rfl (by simp)
  rename_i b
  rw [if_neg b]
  split at he
  · simp at he
  rename_i c
  rw [if_neg c]
  split at he
  · rename_i d; rw [if_pos d]; exact h.succ rfl rfl (by simp [ByteArray.size_append, one_size])
  rename_i d
  rw [if_neg d]
  split at he
  · simp at he
  · rename_i e; rw [if_neg e]; exact h.succ rfl rfl (by simp [ByteArray.size_append, one_size])

theorem escape_bnd {n : Nat} {m : Mach} (h : Bnd n m) (x : Int) (he : (escape m x).1 = 0) : Bnd (n + 1) (escape m x).2 := by
  unfold escape at he ⊢
  split at he
  · rename_i a; rw [if_pos a]; exact h.succ rfl rfl (by simp [ByteArray.size_append, one_size])
  rename_i a
  rw [if_neg a]
  split at he
  · rename_i b; rw [if_pos b]; exact h.succ rfl rfl (by simp [ByteArray.size_append, one_size])
  rename_i b
  rw [if_neg b]
  split at he
  · rename_i c; rw [if_pos c]; exact h.succ rfl rfl (by simp [ByteArray.size_append, one_size])
  rename_i c
  rw [if_neg c]
  split at he
  · rename_i d; rw [if_pos d]; exact h.succ rfl rfl (by simp)
  · simp at he

theorem digit_bnd {n : Nat} {m : Mach} (h : Bnd n m) (x : Int) (he : (digit m x).1 = 0) : Bnd (n + 1) (digit m x).2 := by
  unfold digit at he ⊢
  split at he
  · simp at he
  rename_i a
  rw [if_neg a]
  split at he
  · simp at he
  rename_i b
  rw [if_neg b]
  split at he
  · rename_i c; rw [if_pos c]; exact h.succ rfl rfl (by have := enc_size (16 * m.number + hexN x); simp [ByteArray.size_append]; omega)
  · rename_i c; rw [if_neg c]; exact h.succ rfl rfl (by simp)

theorem step_bnd {n : Nat} {m : Mach} (h : Bnd n m) (x : Int) (he : (step m x).1 = 0) : Bnd (n + 1) (step m x).2 := by
  by_cases h8 : m.state = 8
  · rw [step_8 m x h8] at he ⊢; exact plain_bnd h x he
  by_cases h9 : m.state = 9
  · rw [step_9 m x h9] at he ⊢
    split at he
    · simp at he
    · rename_i a; rw [if_neg a]; exact h.succ rfl rfl (by simp [ByteArray.size_append, one_size])
  by_cases h10 : m.state = 10
  · rw [step_10 m x h10] at he ⊢; exact escape_bnd h x he
  by_cases h11 : m.state = 11
  · rw [step_11 m x h11] at he ⊢; exact digit_bnd h x he
  by_cases h7 : m.state = 7
  · rw [step_7 m x h7] at he ⊢
    split at he
    · simp at he
    · rename_i a; rw [if_neg a]; exact h.succ rfl rfl (by simp)
  unfold step at he ⊢
  rw [if_neg h8, if_neg h9, if_neg h10, if_neg h11, if_neg h7] at he ⊢
  split at he
  · rename_i a; rw [if_pos a]; exact h.succ rfl rfl (by simp)
  rename_i a
  rw [if_neg a]
  split at he
  · rename_i b; rw [if_pos b]; exact after_bnd h x he
  rename_i b
  rw [if_neg b]
  split at he
  · rename_i c; rw [if_pos c]; exact end_bnd h x he
  rename_i c
  rw [if_neg c]
  split at he
  · rename_i d
    rw [if_pos d]
    split at he
    · simp at he
    · rename_i e; rw [if_neg e]; exact h.succ rfl rfl (Nat.zero_le _)
  · rename_i d; rw [if_neg d]; exact begin_bnd h x he

/-- The texts's beginning. -/
def init : Mach := { state := 1, opn := [], nodes := [], named := false, got := ⟨#[]⟩, need := 0, low := 0, high := 0, number := 0, word := ⟨#[]⟩, root := 0 }

theorem end_wf {m : Mach} (h : Wf m) (x : Int) (he : (end_ m x).1 = 0) : Wf (end_ m x).2 := by
  unfold end_ at he ⊢
  split at he
  · simp at he
  split at he
  · simp at he
  rename_i a b
  rw [if_neg a, if_neg b]
  exact ⟨by simp, by simp, by simp, by simp, by simp, by simp, by simp, h.small⟩

theorem after_wf {m : Mach} (h : Wf m) (x : Int) (he : (after m x).1 = 0) : Wf (after m x).2 := by
  unfold after at he ⊢
  split at he
  · rename_i a; rw [if_pos a]; exact ⟨by simp, by simp, by simp, by simp, by simp, by simp, by simp, h.small⟩
  split at he
  · simp at he
  split at he
  · rename_i a b c; rw [if_neg a, if_neg b, if_pos c]; exact end_wf h x he
  split at he
  · simp at he
  · rename_i a b c d
    rw [if_neg a, if_neg b, if_neg c, if_neg d]
    have hop : m.opn ≠ [] := fun e => b (.inr e)
    by_cases hk : topKind m = 1
    · rw [if_pos hk]; exact ⟨by simp, by simp, by simp, by simp, by simp, by simp, fun _ _ => hop, h.small⟩
    · rw [if_neg hk]; exact ⟨by simp, by simp, by simp, by simp, by simp, by simp, by simp, h.small⟩

theorem begin_wf {m : Mach} (h : Wf m) (x : Int) (he : (begin_ m x).1 = 0) : Wf (begin_ m x).2 := by
  unfold begin_ at he ⊢
  split at he
  · rename_i a
    rw [if_pos a]
    split at he
    · simp at he
    rename_i b
    rw [if_neg b]
    have hst : ∀ (d : Node), (lay { m with state := if x = 91 then 2 else 3 } d).state = if x = 91 then 2 else 3 := fun d => lay_state _ d
    have hs2 : (if x = 91 then (2 : Int) else 3) = 2 ∨ (if x = 91 then (2 : Int) else 3) = 3 := by split <;> simp
    refine ⟨?_, ?_, ?_, ?_, ?_, ?_, ?_, ?_⟩
    · simp only [hst]; omega
    · simp only [hst]; omega
    · simp only [hst]; intro h8; omega
    · simp only [hst]; intro h7; omega
    · simp only [hst]; intro h9; omega
    · simp only [hst]; intro h11; omega
    · intro _ _; simp
    · simp only [lay_word]; exact h.small
  rename_i a
  rw [if_neg a]
  split at he
  · rename_i b; rw [if_pos b]; exact ⟨by simp, by simp, by simp, by simp, by simp, by simp, by simp, h.small⟩
  rename_i b
  rw [if_neg b]
  split at he
  · rename_i c
    rw [if_pos c]
    exact ⟨by simp, by simp, by simp, fun _ => by show 1 ≤ 3; omega, by simp, by simp, by simp, by show 3 ≤ 10; omega⟩
  rename_i c
  rw [if_neg c]
  split at he
  · rename_i d
    rw [if_pos d]
    exact ⟨by simp, by simp, by simp, fun _ => by show 1 ≤ 4; omega, by simp, by simp, by simp, by show 4 ≤ 10; omega⟩
  · simp at he

theorem closed_wf {m : Mach} (h : Wf m) (h8 : m.state = 8) (he : (closed m).1 = 0) : Wf (closed m).2 := by
  unfold closed at he ⊢
  split at he
  · rename_i a
    rw [if_pos a]
    exact ⟨by simp, by simp, by simp, by simp, by simp, by simp, by simp, by simp only [lay_word]; exact h.small⟩
  split at he
  · simp at he
  rename_i a b
  rw [if_neg a, if_neg b]
  have hop := h.named (by omega) (by simpa using a)
  exact ⟨by simp, by simp, by simp, by simp, by simp, by simp, fun _ _ => hop, h.small⟩

theorem lead_small (x : Int) : (leadN x).1 = 0 ∨ 1 ≤ (leadN x).1 := by have := leadN_bounds x; omega

theorem plain_wf {m : Mach} (h : Wf m) (h8 : m.state = 8) (x : Int) (he : (plain m x).1 = 0) : Wf (plain m x).2 := by
  have hnm := h.named (by omega)
  unfold plain at he ⊢
  split at he
  · rename_i a; rw [if_pos a]; exact closed_wf h h8 he
  rename_i a
  rw [if_neg a]
  split at he
  · rename_i b; rw [if_pos b]; exact ⟨by simp, by simp, fun _ => hnm, by simp, by simp, by simp, by simp, h.small⟩
  rename_i b
  rw [if_neg b]
  split at he
  · simp at he
  rename_i c
  rw [if_neg c]
  split at he
  · rename_i d
    rw [if_pos d]
    exact ⟨h.lo, h.hi, fun _ => hnm, h.word, h.need9, h.need11, h.opens, h.small⟩
  rename_i d
  rw [if_neg d]
  split at he
  · simp at he
  · rename_i e
    rw [if_neg e]
    have hb := leadN_bounds x
    exact ⟨by simp, by simp, fun _ => hnm, by simp, fun _ => by simp only; omega, by simp, by simp, h.small⟩

theorem escape_wf {m : Mach} (h : Wf m) (h10 : m.state = 10) (x : Int) (he : (escape m x).1 = 0) : Wf (escape m x).2 := by
  have hnm := h.named (by omega)
  unfold escape at he ⊢
  split at he
  · rename_i a; rw [if_pos a]; exact ⟨by simp, by simp, fun _ => hnm, by simp, by simp, by simp, by simp, h.small⟩
  rename_i a
  rw [if_neg a]
  split at he
  · rename_i b; rw [if_pos b]; exact ⟨by simp, by simp, fun _ => hnm, by simp, by simp, by simp, by simp, h.small⟩
  rename_i b
  rw [if_neg b]
  split at he
  · rename_i c; rw [if_pos c]; exact ⟨by simp, by simp, fun _ => hnm, by simp, by simp, by simp, by simp, h.small⟩
  rename_i c
  rw [if_neg c]
  split at he
  · rename_i d; rw [if_pos d]; exact ⟨by simp, by simp, fun _ => hnm, by simp, by simp, fun _ => by simp, by simp, h.small⟩
  · simp at he

theorem digit_wf {m : Mach} (h : Wf m) (h11 : m.state = 11) (x : Int) (he : (digit m x).1 = 0) : Wf (digit m x).2 := by
  have hnm := h.named (by omega)
  obtain ⟨n1, n2, n3, n4, n5, n6, n7⟩ := h.need11 h11
  have hv : -1 ≤ hexN x ∧ hexN x ≤ 15 := by
    unfold hexN
    split
    · omega
    split
    · omega
    split
    · omega
    · omega
  unfold digit at he ⊢
  split at he
  · simp at he
  rename_i a
  rw [if_neg a]
  split at he
  · simp at he
  rename_i b
  rw [if_neg b]
  split at he
  · rename_i c; rw [if_pos c]; exact ⟨by simp, by simp, fun _ => hnm, by simp, by simp, by simp, by simp, h.small⟩
  · rename_i c
    rw [if_neg c]
    have hneed : m.need = 2 ∨ m.need = 3 ∨ m.need = 4 := by omega
    refine ⟨h.lo, h.hi, fun _ => hnm, by simp only; omega, by simp only; omega, ?_, by simp only; omega, h.small⟩
    intro _
    simp only
    rcases hneed with e | e | e
    · have := n7 e; omega
    · have := n6 e; omega
    · have := n5 e; omega

theorem step_wf {m : Mach} (h : Wf m) (x : Int) (he : (step m x).1 = 0) : Wf (step m x).2 := by
  by_cases h8 : m.state = 8
  · rw [step_8 m x h8] at he ⊢; exact plain_wf h h8 x he
  by_cases h9 : m.state = 9
  · have hnm := h.named (by omega)
    have hn := h.need9 h9
    rw [step_9 m x h9] at he ⊢
    split at he
    · simp at he
    · rename_i a
      rw [if_neg a]
      by_cases hz : m.need - 1 = 0
      · rw [if_pos hz]; exact ⟨by simp, by simp, fun _ => hnm, by simp, by simp, by simp, by simp, h.small⟩
      · rw [if_neg hz]; exact ⟨by simp, by simp, fun _ => hnm, by simp, fun _ => by simp only; omega, by simp, by simp, h.small⟩
  by_cases h10 : m.state = 10
  · rw [step_10 m x h10] at he ⊢; exact escape_wf h h10 x he
  by_cases h11 : m.state = 11
  · rw [step_11 m x h11] at he ⊢; exact digit_wf h h11 x he
  by_cases h7 : m.state = 7
  · have hw := h.word h7
    have hs := h.small
    rw [step_7 m x h7] at he ⊢
    split at he
    · simp at he
    · rename_i a
      rw [if_neg a]
      have hsz : (m.word.extract 1 m.word.size).size = m.word.size - 1 := by rw [ByteArray.size_extract]; omega
      by_cases hz : m.word.size = 1
      · rw [if_pos hz]; exact ⟨by simp, by simp, by simp, by simp, by simp, by simp, by simp, by simp only [hsz]; omega⟩
      · rw [if_neg hz]; exact ⟨by simp, by simp, by simp, fun _ => by simp only [hsz]; omega, by simp, by simp, by simp, by simp only [hsz]; omega⟩
  have hlo := h.lo
  have hhi := h.hi
  rw [step_low m x (by omega)] at he ⊢
  split at he
  · rename_i a; rw [if_pos a]; exact h
  rename_i a
  rw [if_neg a]
  split at he
  · rename_i b; rw [if_pos b]; exact after_wf h x he
  rename_i b
  rw [if_neg b]
  split at he
  · rename_i c; rw [if_pos c]; exact end_wf h x he
  rename_i c
  rw [if_neg c]
  split at he
  · rename_i d
    rw [if_pos d]
    split at he
    · simp at he
    · rename_i e
      rw [if_neg e]
      have hop := h.opens (by omega) (by omega)
      exact ⟨by simp, by simp, fun _ _ => hop, by simp, by simp, by simp, by simp, h.small⟩
  · rename_i d; rw [if_neg d]; exact begin_wf h x he

/-- The machine over a list of bytes from place p on: the error (0: none) and its place, or the machine behind them. -/
def run : Mach → List UInt8 → Nat → Int × Nat × Mach
  | m, [], p => (0, p, m)
  | m, c :: r, p => if (step m (c.toNat : Int)).1 = 0 then run (step m (c.toNat : Int)).2 r (p + 1) else ((step m (c.toNat : Int)).1, p, m)

end Ref
end Go.Proofs.YtdakgnaojakldaaGreatDoor

/- Plain mathematics of the reference's machine: what it has read is a tree whose objects have a name for each member. -/
namespace Go.Proofs.YtdakgnaojakldaaGreatDoor
namespace Ref

/-- Is a value asked for (where an object is open: behind its name)? -/
def pend (m : Mach) : Prop := m.state = 5 ∨ m.state = 1 ∨ (8 ≤ m.state ∧ m.named = false)
def asks (m : Mach) : Prop := (2 ≤ m.state ∧ m.state ≤ 7) ∨ (8 ≤ m.state ∧ m.named = true)
def unTop (m : Mach) : Prop := ∀ (i : Nat) (n : Node), m.opn.getLast? = some i → m.nodes[i]? = some n → n.kind ≠ 1

/-- All objects have a name for each member, all members are there. -/
def Ev (ns : List Node) : Prop := ∀ (i : Nat) (n : Node), ns[i]? = some n → (∀ k ∈ n.kids, k < ns.length) ∧ (n.kind = 1 → n.names.length = n.kids.length)

structure Tree (m : Mach) : Prop where
  kids : ∀ (i : Nat) (n : Node), m.nodes[i]? = some n → ∀ k ∈ n.kids, k < m.nodes.length
  even : ∀ (i : Nat) (n : Node), m.nodes[i]? = some n → ¬ (pend m ∧ m.opn.getLast? = some i) → n.kind = 1 → n.names.length = n.kids.length
  odd : ∀ (i : Nat) (n : Node), m.nodes[i]? = some n → pend m → m.opn.getLast? = some i → n.kind = 1 → n.names.length = n.kids.length + 1
  two : m.state = 2 → unTop m
  full : asks m → m.nodes ≠ []
  root0 : 0 ≤ m.root
  root : m.nodes ≠ [] → m.root < (m.nodes.length : Int)

theorem Tree.like {m m' : Mach} (h : Tree m) (ho : m'.opn = m.opn) (hn : m'.nodes = m.nodes) (hr : m'.root = m.root) (hp : pend m' ↔ pend m) (h2 : m'.state = 2 → m.state = 2) (hf : asks m' → asks m) : Tree m' := by
  refine ⟨by rw [hn]; exact h.kids, by rw [hn, ho, hp]; exact h.even, by rw [hn, ho, hp]; exact h.odd, fun e => ?_, fun e => by rw [hn]; exact h.full (hf e), by rw [hr]; exact h.root0, by rw [hn, hr]; exact h.root⟩
  have := h.two (h2 e)
  unfold unTop at this ⊢
  rw [ho, hn]
  exact this

theorem Tree.ev {m : Mach} (h : Tree m) (hp : ¬ pend m) : Ev m.nodes := fun i n hi => ⟨h.kids i n hi, h.even i n hi (fun e => hp e.1)⟩

theorem Tree.of {m : Mach} (h : Ev m.nodes) (hp : ¬ pend m) (h2 : m.state = 2 → unTop m) (hn : m.nodes ≠ []) (hr0 : 0 ≤ m.root) (hr : m.root < (m.nodes.length : Int)) : Tree m :=
  ⟨fun i n hi => (h i n hi).1, fun i n hi _ => (h i n hi).2, fun _ _ _ e => absurd e hp, h2, fun _ => hn, hr0, fun _ => hr⟩

theorem lastD {l : List Nat} {o : Nat} (h : l.getLast? = some o) : l.getLastD 0 = o := by
  cases l with
  | nil => simp at h
  | cons a r => simpa [List.getLastD, List.getLast?] using h

theorem last_some {l : List Nat} (h : l ≠ []) : l.getLast? = some (l.getLastD 0) := by
  cases l with
  | nil => exact absurd rfl h
  | cons a r => simp [List.getLastD, List.getLast?]

theorem modify_get {α : Type} (l : List α) (f : α → α) (o i : Nat) (d : α) (h : (l.modify o f)[i]? = some d) : ∃ c, l[i]? = some c ∧ d = if o = i then f c else c := by
  rw [List.getElem?_modify] at h
  cases hc : l[i]? with
  | none => rw [hc] at h; simp at h
  | some c => rw [hc] at h; simp at h; exact ⟨c, rfl, h.symm⟩

theorem lay_ev {m : Mach} (h : Tree m) (ht : ∀ o ∈ m.opn, o < m.nodes.length) (hp : pend m ∨ unTop m) (d : Node) (hd : d.names = []) (hk : d.kids = []) :
    Ev (lay m d).nodes ∧ (lay m d).nodes ≠ [] ∧ 0 ≤ (lay m d).root ∧ (lay m d).root < ((lay m d).nodes.length : Int) := by
  have base : ∀ (i : Nat) (e : Node), (m.nodes ++ [d])[i]? = some e → m.nodes[i]? = some e ∨ (i = m.nodes.length ∧ e = d) := by
    intro i e he
    rw [List.getElem?_append] at he
    split at he
    · exact .inl he
    · rename_i hl
      have hm := List.mem_of_getElem? he
      simp only [List.mem_singleton] at hm
      have := List.getElem?_eq_some_iff.1 he
      obtain ⟨hi, _⟩ := this
      simp only [List.length_singleton] at hi
      exact .inr ⟨by omega, hm⟩
  have hroot0 := h.root0
  have hroot := h.root
  unfold lay
  by_cases hop : m.opn = []
  · rw [if_pos hop]
    refine ⟨?_, by simp, by simp, by simp; omega⟩
    intro i e he
    rcases base i e he with hc | ⟨_, rfl⟩
    · refine ⟨fun k hkk => ?_, h.even i e hc (by rw [hop]; simp)⟩
      have := h.kids i e hc k hkk
      simp; omega
    · rw [hd, hk]; simp
  · rw [if_neg hop]
    refine ⟨?_, by simp [addKid], hroot0, ?_⟩
    · have hlast := last_some hop
      have hto := ht _ (List.mem_of_getLast? hlast)
      obtain ⟨o, ho⟩ : ∃ o, m.opn.getLastD 0 = o := ⟨_, rfl⟩
      simp only [ho] at hlast hto ⊢
      intro i e he
      unfold addKid at he ⊢
      obtain ⟨c, hc, hec⟩ := modify_get _ _ _ _ _ he
      clear he
      have he := hec
      clear hec
      simp only [List.length_modify, List.length_append, List.length_singleton]
      · by_cases hoi : o = i
        · rw [if_pos hoi] at he
          subst he
          simp only [List.mem_append, List.mem_singleton, List.length_append, List.length_singleton]
          rcases base i c hc with hb | ⟨hb, rfl⟩
          · refine ⟨fun k hkk => ?_, fun hone => ?_⟩
            · rcases hkk with hkk | rfl
              · have := h.kids i c hb k hkk; omega
              · omega
            · rcases hp with hp | hp
              · exact h.odd i c hb hp (by rw [hlast, hoi]) hone
              · exact absurd hone (hp i c (by rw [hlast, hoi]) hb)
          · omega
        · rw [if_neg hoi] at he
          subst he
          rcases base i e hc with hb | ⟨hb, rfl⟩
          · refine ⟨fun k hkk => ?_, h.even i e hb (fun e => hoi ?_)⟩
            · have := h.kids i e hb k hkk; omega
            · have := e.2; rw [hlast] at this; simpa using this
          · rw [hd, hk]; simp
    · simp [addKid]
      have hto := ht _ (List.mem_of_getLast? (last_some hop))
      have := hroot (fun e => by rw [e] at hto; simp at hto)
      omega

theorem pend_state {m : Mach} (h2 : 2 ≤ m.state) (h7 : m.state ≤ 7) (h5 : m.state ≠ 5) : ¬ pend m := by
  unfold pend; omega

theorem end_tree {m : Mach} (h : Tree m) (hp : ¬ pend m) (ha : asks m) (x : Int) (he : (end_ m x).1 = 0) : Tree (end_ m x).2 := by
  unfold end_ at he ⊢
  split at he
  · simp at he
  split at he
  · simp at he
  rename_i a b
  rw [if_neg a, if_neg b]
  exact Tree.of (h.ev hp) (by unfold pend; simp) (by simp) (h.full ha) h.root0 (h.root (h.full ha))

theorem after_tree {m : Mach} (h : Tree m) (hst : m.state = 6 ∨ m.state = 5) (x : Int) (he : (after m x).1 = 0) : Tree (after m x).2 := by
  unfold after at he ⊢
  split at he
  · rename_i a; rw [if_pos a]; exact h.like rfl rfl rfl (by unfold pend; simp [a.1]) (by simp) (by unfold asks; simp)
  split at he
  · simp at he
  rename_i a b
  have h6 : m.state = 6 := by omega
  split at he
  · rename_i c; rw [if_neg a, if_neg b, if_pos c]; exact end_tree h (by unfold pend; omega) (by unfold asks; omega) x he
  split at he
  · simp at he
  · rename_i c d
    rw [if_neg a, if_neg b, if_neg c, if_neg d]
    have hev := h.ev (by unfold pend; omega)
    have hn := h.full (by unfold asks; omega)
    have hop : m.opn ≠ [] := fun e => b (.inr e)
    by_cases hk : topKind m = 1
    · rw [if_pos hk]; exact Tree.of hev (by unfold pend; simp) (by simp) hn h.root0 (h.root hn)
    · rw [if_neg hk]
      refine ⟨fun i n hi => (hev i n hi).1, fun i n hi _ => (hev i n hi).2, ?_, by simp, by unfold asks; simp, h.root0, h.root⟩
      intro i n hi _ hl hone
      unfold topKind at hk
      rw [lastD hl, hi] at hk
      exact absurd hone hk

theorem begin_tree {m : Mach} (h : Tree m) (ht : ∀ o ∈ m.opn, o < m.nodes.length) (hst : m.state = 1 ∨ m.state = 2) (x : Int) (he : (begin_ m x).1 = 0) : Tree (begin_ m x).2 := by
  have hpu : pend m ∨ unTop m := by
    rcases hst with e | e
    · exact .inl (.inr (.inl e))
    · exact .inr (h.two e)
  unfold begin_ at he ⊢
  split at he
  · rename_i a
    rw [if_pos a]
    split at he
    · simp at he
    rename_i b
    rw [if_neg b]
    have e1 : ∀ d, (lay { m with state := if x = 91 then 2 else 3 } d).nodes = (lay m d).nodes := fun d => by unfold lay; simp only; split <;> rfl
    have e2 : ∀ d, (lay { m with state := if x = 91 then 2 else 3 } d).root = (lay m d).root := fun d => by unfold lay; simp only; split <;> rfl
    have e3 : ∀ d, (lay { m with state := if x = 91 then 2 else 3 } d).state = if x = 91 then 2 else 3 := fun d => lay_state _ d
    obtain ⟨q1, q2, q3, q4⟩ := lay_ev h ht hpu { kind := if x = 91 then 2 else 1, text := ⟨#[]⟩, names := [], kids := [] } rfl rfl
    refine Tree.of (by simp only [e1]; exact q1) ?_ ?_ (by simp only [e1]; exact q2) (by simp only [e2]; exact q3) (by simp only [e1, e2]; exact q4)
    · unfold pend
      simp only [e3]
      split <;> omega
    · simp only [e3]
      intro hs i n hi hn
      simp only [List.getLast?_append, List.getLast?_singleton, Option.some_or, Option.some.injEq] at hi
      subst hi
      simp only [e1] at hn
      have h91 : x = 91 := by by_cases e : x = 91; exact e; rw [if_neg e] at hs; omega
      subst h91
      simp only [if_true] at hn
      unfold lay at hn
      split at hn
      · simp at hn; rw [← hn]; simp
      · unfold addKid at hn
        rw [List.getElem?_modify] at hn
        simp at hn
        rw [← hn]
        split <;> simp
  rename_i a
  rw [if_neg a]
  split at he
  · rename_i b
    rw [if_pos b]
    rcases hst with e | e
    · exact h.like rfl rfl rfl (by unfold pend; simp [e]) (by simp) (by unfold asks; simp)
    · have hev := h.ev (by unfold pend; omega)
      refine ⟨fun i n hi => (hev i n hi).1, fun i n hi _ => (hev i n hi).2, ?_, by simp, by unfold asks; simp, h.root0, h.root⟩
      intro i n hi _ hl hone
      exact absurd hone (h.two e i n hl hi)
  rename_i b
  rw [if_neg b]
  split at he
  · rename_i c
    rw [if_pos c]
    obtain ⟨q1, q2, q3, q4⟩ := lay_ev h ht hpu { kind := 4, text := ⟨#[]⟩, names := [], kids := [] } rfl rfl
    exact Tree.of q1 (by unfold pend; simp) (by simp) q2 q3 q4
  rename_i c
  rw [if_neg c]
  split at he
  · rename_i d
    rw [if_pos d]
    obtain ⟨q1, q2, q3, q4⟩ := lay_ev h ht hpu { kind := 5, text := ⟨#[]⟩, names := [], kids := [] } rfl rfl
    exact Tree.of q1 (by unfold pend; simp) (by simp) q2 q3 q4
  · simp at he

theorem closed_tree {m : Mach} (h : Tree m) (ht : ∀ o ∈ m.opn, o < m.nodes.length) (h8 : m.state = 8) (hno : m.named = true → m.opn ≠ []) (he : (closed m).1 = 0) : Tree (closed m).2 := by
  unfold closed at he ⊢
  split at he
  · rename_i a
    rw [if_pos a]
    obtain ⟨q1, q2, q3, q4⟩ := lay_ev h ht (.inl (.inr (.inr ⟨by omega, a⟩))) { kind := 3, text := m.got, names := [], kids := [] } rfl rfl
    exact Tree.of q1 (by unfold pend; simp) (by simp) q2 q3 q4
  split at he
  · simp at he
  rename_i a b
  rw [if_neg a, if_neg b]
  have hnt : m.named = true := by simpa using a
  have hev := h.ev (by unfold pend; simp [hnt]; omega)
  have hn := h.full (.inr ⟨by omega, hnt⟩)
  have hlast := last_some (hno hnt)
  refine ⟨?_, ?_, ?_, by simp, fun _ => by simpa [addName] using hn, h.root0, fun _ => by simpa [addName] using h.root hn⟩
  · intro i n hi k hk
    simp only [addName, List.length_modify]
    rcases modify_cases _ _ _ _ _ hi with hc | ⟨c, hc, rfl⟩
    · exact (hev i n hc).1 k hk
    · exact (hev i c hc).1 k hk
  · intro i n hi hnp hone
    obtain ⟨c, hc, hec⟩ := modify_get _ _ _ _ _ hi
    by_cases hoi : m.opn.getLastD 0 = i
    · exact absurd ⟨.inl rfl, by simp only; rw [hlast, hoi]⟩ hnp
    · rw [if_neg hoi] at hec
      subst hec
      exact (hev i _ hc).2 hone
  · intro i n hi _ hl hone
    obtain ⟨c, hc, hec⟩ := modify_get _ _ _ _ _ hi
    have hl2 := lastD hl
    simp only at hl2
    rw [if_pos hl2] at hec
    subst hec
    have := (hev i c hc).2 hone
    simp; omega

theorem plain_tree {m : Mach} (h : Tree m) (ht : ∀ o ∈ m.opn, o < m.nodes.length) (h8 : m.state = 8) (hno : m.named = true → m.opn ≠ []) (x : Int) (he : (plain m x).1 = 0) : Tree (plain m x).2 := by
  unfold plain at he ⊢
  split at he
  · rename_i a; rw [if_pos a]; exact closed_tree h ht h8 hno he
  rename_i a
  rw [if_neg a]
  split at he
  · rename_i b; rw [if_pos b]; exact h.like rfl rfl rfl (by unfold pend; simp [h8]) (by simp) (by unfold asks; simp [h8])
  rename_i b
  rw [if_neg b]
  split at he
  · simp at he
  rename_i c
  rw [if_neg c]
  split at he
  · rename_i d; rw [if_pos d]; exact h.like rfl rfl rfl (by unfold pend; simp) (by simp) (by unfold asks; simp)
  rename_i d
  rw [if_neg d]
  split at he
  · simp at he
  · rename_i e; rw [if_neg e]; exact h.like rfl rfl rfl (by unfold pend; simp [h8]) (by simp) (by unfold asks; simp [h8])

theorem escape_tree {m : Mach} (h : Tree m) (h10 : m.state = 10) (x : Int) (he : (escape m x).1 = 0) : Tree (escape m x).2 := by
  unfold escape at he ⊢
  split at he
  · rename_i a; rw [if_pos a]; exact h.like rfl rfl rfl (by unfold pend; simp [h10]) (by simp) (by unfold asks; simp [h10])
  rename_i a
  rw [if_neg a]
  split at he
  · rename_i b; rw [if_pos b]; exact h.like rfl rfl rfl (by unfold pend; simp [h10]) (by simp) (by unfold asks; simp [h10])
  rename_i b
  rw [if_neg b]
  split at he
  · rename_i c; rw [if_pos c]; exact h.like rfl rfl rfl (by unfold pend; simp [h10]) (by simp) (by unfold asks; simp [h10])
  rename_i c
  rw [if_neg c]
  split at he
  · rename_i d; rw [if_pos d]; exact h.like rfl rfl rfl (by unfold pend; simp [h10]) (by simp) (by unfold asks; simp [h10])
  · simp at he

theorem digit_tree {m : Mach} (h : Tree m) (h11 : m.state = 11) (x : Int) (he : (digit m x).1 = 0) : Tree (digit m x).2 := by
  unfold digit at he ⊢
  split at he
  · simp at he
  rename_i a
  rw [if_neg a]
  split at he
  · simp at he
  rename_i b
  rw [if_neg b]
  split at he
  · rename_i c; rw [if_pos c]; exact h.like rfl rfl rfl (by unfold pend; simp [h11]) (by simp) (by unfold asks; simp [h11])
  · rename_i c; rw [if_neg c]; exact h.like rfl rfl rfl (by unfold pend; simp) (by simp) (by unfold asks; simp)

theorem step_tree {m : Mach} (h : Tree m) (hw : Wf m) (ht : ∀ o ∈ m.opn, o < m.nodes.length) (x : Int) (he : (step m x).1 = 0) : Tree (step m x).2 := by
  have hnm := hw.named
  by_cases h8 : m.state = 8
  · rw [step_8 m x h8] at he ⊢; exact plain_tree h ht h8 (hnm (by omega)) x he
  by_cases h9 : m.state = 9
  · rw [step_9 m x h9] at he ⊢
    split at he
    · simp at he
    · rename_i a
      rw [if_neg a]
      by_cases hz : m.need - 1 = 0
      · rw [if_pos hz]; exact h.like rfl rfl rfl (by unfold pend; simp [h9]) (by simp) (by unfold asks; simp [h9])
      · rw [if_neg hz]; exact h.like rfl rfl rfl (by unfold pend; simp [h9]) (by simp) (by unfold asks; simp [h9])
  by_cases h10 : m.state = 10
  · rw [step_10 m x h10] at he ⊢; exact escape_tree h h10 x he
  by_cases h11 : m.state = 11
  · rw [step_11 m x h11] at he ⊢; exact digit_tree h h11 x he
  by_cases h7 : m.state = 7
  · rw [step_7 m x h7] at he ⊢
    split at he
    · simp at he
    · rename_i a
      rw [if_neg a]
      by_cases hz : m.word.size = 1
      · rw [if_pos hz]; exact h.like rfl rfl rfl (by unfold pend; simp [h7]) (by simp) (by unfold asks; simp [h7])
      · rw [if_neg hz]; exact h.like rfl rfl rfl (by unfold pend; simp [h7]) (by simp) (by unfold asks; simp [h7])
  have hlo := hw.lo
  have hhi := hw.hi
  rw [step_low m x (by omega)] at he ⊢
  split at he
  · rename_i a; rw [if_pos a]; exact h
  rename_i a
  rw [if_neg a]
  split at he
  · rename_i b; rw [if_pos b]; exact after_tree h b x he
  rename_i b
  rw [if_neg b]
  split at he
  · rename_i c; rw [if_pos c]; exact end_tree h (by unfold pend; omega) (by unfold asks; omega) x he
  rename_i c
  rw [if_neg c]
  split at he
  · rename_i d
    rw [if_pos d]
    split at he
    · simp at he
    · rename_i e
      rw [if_neg e]
      have hn := h.full (by unfold asks; omega)
      exact Tree.of (h.ev (by unfold pend; omega)) (by unfold pend; simp) (by simp) hn h.root0 (h.root hn)
  · rename_i d; rw [if_neg d]; exact begin_tree h ht (by omega) x he

theorem init_tree : Tree init :=
  ⟨fun i n hi => by simp [init] at hi, fun i n hi => by simp [init] at hi, fun i n hi => by simp [init] at hi, by simp [init], by unfold asks; simp [init], by simp [init], fun e => absurd rfl e⟩

theorem run_tree : ∀ (l : List UInt8) (m : Mach) (p k : Nat), Tree m → Wf m → Bnd k m → (run m l p).1 = 0 → Tree (run m l p).2.2 ∧ Wf (run m l p).2.2
  | [], m, p, k, h, hw, hb, _ => ⟨h, hw⟩
  | c :: r, m, p, k, h, hw, hb, he => by
    unfold run at he ⊢
    by_cases hs : (step m (c.toNat : Int)).1 = 0
    · rw [if_pos hs] at he ⊢
      exact run_tree r _ _ (k + 1) (step_tree h hw hb.top _ hs) (step_wf hw _ hs) (step_bnd hb _ hs) he
    · rw [if_neg hs] at he
      exact absurd he hs

end Ref
end Go.Proofs.YtdakgnaojakldaaGreatDoor

/- Plain mathematics of the reference: what a value that was read says as a document. -/
namespace Go.Proofs.YtdakgnaojakldaaGreatDoor
namespace Ref

def hasL : List ByteArray → List Nat → ByteArray → Int
  | s :: ss, k :: ks, name => if s.toList == name.toList then (k : Int) else hasL ss ks name
  | _, _, _ => -1

/-- Where an object has a member; -1: it has not. -/
def hasN (n : Node) (name : ByteArray) : Int := hasL n.names n.kids name

/-- Has an object no members but these? -/
def onlyN (n : Node) (names : List ByteArray) : Bool := n.names.all (fun s => names.any fun t => t.toList == s.toList) && n.kind == 1

theorem hasL_hit (ss : List ByteArray) (ks : List Nat) (name : ByteArray) (i : Nat) (hi : i < ss.length) (hk : i < ks.length) (h : (ss[i].toList == name.toList) = true) : hasL (ss.drop i) (ks.drop i) name = (ks[i] : Int) := by
  rw [List.drop_eq_getElem_cons hi, List.drop_eq_getElem_cons hk, hasL, if_pos h]

theorem hasL_pass (ss : List ByteArray) (ks : List Nat) (name : ByteArray) (i : Nat) (hi : i < ss.length) (hk : i < ks.length) (h : (ss[i].toList == name.toList) = false) : hasL (ss.drop i) (ks.drop i) name = hasL (ss.drop (i + 1)) (ks.drop (i + 1)) name := by
  rw [List.drop_eq_getElem_cons hi, List.drop_eq_getElem_cons hk, hasL, if_neg (by simp [h])]

theorem hasL_end (ss : List ByteArray) (ks : List Nat) (name : ByteArray) (i : Nat) (hi : ¬ i < ss.length) : hasL (ss.drop i) (ks.drop i) name = -1 := by
  rw [List.drop_of_length_le (by omega), hasL]
  simp

theorem any_next (ts : List ByteArray) (s : ByteArray) (k : Nat) (hk : k < ts.length) (x : Bool) (hx : x = (ts.take k).any fun t => t.toList == s.toList) (b : Bool) (hb : (ts[k].toList == s.toList) = b) : (x || b) = (ts.take (k + 1)).any fun t => t.toList == s.toList := by
  rw [List.take_succ_eq_append_getElem hk, List.any_append, ← hx]; simp [hb]

theorem any_all (ts : List ByteArray) (s : ByteArray) (k : Nat) (hk : ¬ k < ts.length) (x : Bool) (hx : x = (ts.take k).any fun t => t.toList == s.toList) : (ts.any fun t => t.toList == s.toList) = x := by
  rw [List.take_of_length_le (by omega)] at hx; exact hx.symm

theorem all_next {α : Type} (l : List α) (f : α → Bool) (k : Nat) (hk : k < l.length) (h : (l.take k).all f = true) (hf : f l[k] = true) : (l.take (k + 1)).all f = true := by
  rw [List.take_succ_eq_append_getElem hk, List.all_append, h]; simp [hf]

theorem all_stop {α : Type} (l : List α) (f : α → Bool) (k : Nat) (hk : k < l.length) (hf : f l[k] = false) : l.all f = false := by
  rw [List.all_eq_false]; exact ⟨l[k], List.getElem_mem hk, by simp [hf]⟩

theorem all_end {α : Type} (l : List α) (f : α → Bool) (k : Nat) (hk : ¬ k < l.length) (h : (l.take k).all f = true) : l.all f = true := by
  rw [List.take_of_length_le (by omega)] at h; exact h

theorem natGet (l : List Nat) (j : Nat) (h : j < l.length) : (l.map fun (n : Nat) => Value.int .i64 (n : Int))[j]? = some (.int .i64 (l[j] : Int)) := by
  simp [h]

end Ref
end Go.Proofs.YtdakgnaojakldaaGreatDoor

/- Plain mathematics of the reference: how long texts are that were read; strings. -/
namespace Go.Proofs.YtdakgnaojakldaaGreatDoor
namespace Ref

def Texts (K : Nat) (ns : List Node) : Prop := ∀ (i : Nat) (n : Node), ns[i]? = some n → n.text.size ≤ K

theorem lay_texts {K : Nat} {m : Mach} (h : Texts K m.nodes) (d : Node) (hd : d.text.size ≤ K) : Texts K (lay m d).nodes := by
  have base : Texts K (m.nodes ++ [d]) := by
    intro i e he
    rw [List.getElem?_append] at he
    split at he
    · exact h i e he
    · have := List.mem_of_getElem? he
      simp only [List.mem_singleton] at this
      subst this; exact hd
  unfold lay
  split
  · exact base
  · intro i e he
    obtain ⟨c, hc, rfl⟩ := modify_get _ _ _ _ _ he
    have := base i c hc
    split <;> exact this

theorem end_nodes (m : Mach) (x : Int) : (end_ m x).2.nodes = m.nodes := by unfold end_; split <;> (try split) <;> rfl
theorem after_nodes (m : Mach) (x : Int) : (after m x).2.nodes = m.nodes := by
  unfold after
  split
  · rfl
  split
  · rfl
  split
  · exact end_nodes m x
  split <;> rfl
theorem escape_nodes (m : Mach) (x : Int) : (escape m x).2.nodes = m.nodes := by unfold escape; repeat' (split <;> try rfl)
theorem digit_nodes (m : Mach) (x : Int) : (digit m x).2.nodes = m.nodes := by unfold digit; repeat' (split <;> try rfl)

theorem begin_texts {K : Nat} {m : Mach} (h : Texts K m.nodes) (x : Int) : Texts K (begin_ m x).2.nodes := by
  unfold begin_
  split
  · split
    · exact h
    · exact lay_texts (m := { m with state := if x = 91 then 2 else 3 }) h _ (Nat.zero_le _)
  split
  · exact h
  split
  · exact lay_texts h _ (Nat.zero_le _)
  split
  · exact lay_texts h _ (Nat.zero_le _)
  · exact h

theorem closed_texts {K : Nat} {m : Mach} (h : Texts K m.nodes) (hg : m.got.size ≤ K) : Texts K (closed m).2.nodes := by
  unfold closed
  split
  · exact lay_texts h _ hg
  split
  · exact h
  · intro i e he
    obtain ⟨c, hc, rfl⟩ := modify_get _ _ _ _ _ he
    have := h i c hc
    split <;> exact this

theorem plain_texts {K : Nat} {m : Mach} (h : Texts K m.nodes) (hg : m.got.size ≤ K) (x : Int) : Texts K (plain m x).2.nodes := by
  unfold plain
  split
  · exact closed_texts h hg
  repeat' (split <;> try exact h)

theorem step_texts {K : Nat} {m : Mach} (h : Texts K m.nodes) (hg : m.got.size ≤ K) (x : Int) : Texts K (step m x).2.nodes := by
  unfold step
  split
  · exact plain_texts h hg x
  split
  · split <;> exact h
  split
  · rw [escape_nodes]; exact h
  split
  · rw [digit_nodes]; exact h
  split
  · split <;> exact h
  split
  · exact h
  split
  · rw [after_nodes]; exact h
  split
  · rw [end_nodes]; exact h
  split
  · split <;> exact h
  · exact begin_texts h x

theorem run_texts : ∀ (l : List UInt8) (m : Mach) (p k K : Nat), Texts (3 * K) m.nodes → Bnd k m → k + l.length ≤ K → Texts (3 * K) (run m l p).2.2.nodes
  | [], _, _, _, _, h, _, _ => h
  | c :: r, m, p, k, K, h, hb, hK => by
    unfold run
    simp only [List.length_cons] at hK
    have hg := hb.got
    split
    · rename_i hs
      exact run_texts r _ _ (k + 1) K (step_texts h (by omega) _) (step_bnd hb _ hs) (by omega)
    · exact h

/-- The strings of a list. -/
def stringsL (ns : List Node) : List Nat → Option (List ByteArray)
  | [] => some []
  | k :: ks => match ns[k]? with
    | some x => if x.kind = 3 then (stringsL ns ks).map fun l => x.text :: l else none
    | none => none

/-- A string, or a list of 1 to 10 of them. -/
def stringsN (ns : List Node) (k : Int) : Option (List ByteArray) :=
  if k < 0 then none
  else match ns[k.toNat]? with
    | none => none
    | some n => if n.kind = 3 then some [n.text] else if n.kind ≠ 2 ∨ n.kids.length < 1 ∨ 10 < n.kids.length then none else stringsL ns n.kids

theorem stringsL_next (ns : List Node) (ks : List Nat) (i : Nat) (hi : i < ks.length) (x : Node) (hx : ns[ks[i]]? = some x) (h3 : x.kind = 3) (done : List ByteArray) (P : Option (List ByteArray))
    (h : P = (stringsL ns (ks.drop i)).map fun b => done ++ b) : P = (stringsL ns (ks.drop (i + 1))).map fun b => (done ++ [x.text]) ++ b := by
  rw [h, List.drop_eq_getElem_cons hi, stringsL, hx]
  simp [h3, Option.map_map, Function.comp_def]

theorem stringsL_stop (ns : List Node) (ks : List Nat) (i : Nat) (hi : i < ks.length) (x : Node) (hx : ns[ks[i]]? = some x) (h3 : x.kind ≠ 3) (done : List ByteArray) (P : Option (List ByteArray))
    (h : P = (stringsL ns (ks.drop i)).map fun b => done ++ b) : P = none := by
  rw [h, List.drop_eq_getElem_cons hi, stringsL, hx]
  simp [h3]

theorem stringsL_end (ns : List Node) (ks : List Nat) (i : Nat) (hi : ¬ i < ks.length) (done : List ByteArray) (P : Option (List ByteArray))
    (h : P = (stringsL ns (ks.drop i)).map fun b => done ++ b) : P = some done := by
  rw [h, List.drop_of_length_le (by omega), stringsL]; simp

end Ref
end Go.Proofs.YtdakgnaojakldaaGreatDoor

/- Plain mathematics of the reference: patterns among strings; faults. -/
namespace Go.Proofs.YtdakgnaojakldaaGreatDoor
namespace Ref

def isPat (s : ByteArray) : Bool := (parts s).isSome

theorem stringsL_small (ns : List Node) (K : Nat) (h : Texts K ns) : ∀ (ks : List Nat) (l : List ByteArray), stringsL ns ks = some l → ∀ s ∈ l, s.size ≤ K
  | [], l, e => by simp [stringsL] at e; subst e; simp
  | k :: ks, l, e => by
    rw [stringsL] at e
    split at e
    · rename_i x hx
      split at e
      · obtain ⟨r, hr, rfl⟩ := Option.map_eq_some_iff.1 e
        intro s hs
        rcases List.mem_cons.1 hs with rfl | hs
        · exact h k x hx
        · exact stringsL_small ns K h ks r hr s hs
      · simp at e
    · simp at e

theorem stringsN_small (ns : List Node) (K : Nat) (h : Texts K ns) (k : Int) (l : List ByteArray) (e : stringsN ns k = some l) : ∀ s ∈ l, s.size ≤ K := by
  unfold stringsN at e
  split at e
  · simp at e
  split at e
  · simp at e
  rename_i n hn
  split at e
  · simp only [Option.some.injEq] at e
    subst e
    intro s hs
    simp only [List.mem_singleton] at hs
    subst hs
    exact h _ n hn
  split at e
  · simp at e
  · exact stringsL_small ns K h _ l e

theorem stringsL_len (ns : List Node) : ∀ (ks : List Nat) (l : List ByteArray), stringsL ns ks = some l → l.length = ks.length
  | [], l, e => by simp [stringsL] at e; subst e; rfl
  | k :: ks, l, e => by
    rw [stringsL] at e
    split at e
    · split at e
      · obtain ⟨r, hr, rfl⟩ := Option.map_eq_some_iff.1 e
        simp [stringsL_len ns ks r hr]
      · simp at e
    · simp at e

theorem stringsN_len (ns : List Node) (k : Int) (l : List ByteArray) (e : stringsN ns k = some l) : l.length ≤ 10 := by
  unfold stringsN at e
  split at e
  · simp at e
  split at e
  · simp at e
  split at e
  · simp only [Option.some.injEq] at e
    subst e
    simp
  split at e
  · simp at e
  · rename_i h; have := stringsL_len ns _ l e; omega

theorem pat_next (l : List ByteArray) (pt : Bool) (j : Nat) (hj : j < l.length) : (pt || !((l.take (j + 1)).all isPat)) = ((pt || !((l.take j).all isPat)) || !(isPat l[j])) := by
  rw [List.take_succ_eq_append_getElem hj, List.all_append]
  simp [Bool.not_and, Bool.or_assoc]

theorem pat_end (l : List ByteArray) (pt : Bool) (j : Nat) (hj : ¬ j < l.length) : (pt || !((l.take j).all isPat)) = (pt || !(l.all isPat)) := by
  rw [List.take_of_length_le (by omega)]

end Ref
end Go.Proofs.YtdakgnaojakldaaGreatDoor

/- Plain mathematics of the reference: choices. -/
namespace Go.Proofs.YtdakgnaojakldaaGreatDoor
namespace Ref

def bNot : ByteArray := ⟨#[110, 111, 116]⟩

/-- Patterns, or an object with the one member not. -/
def choiceN (ns : List Node) (k : Int) : Bool × Option (List ByteArray) :=
  if k < 0 then (false, none)
  else match ns[k.toNat]? with
    | none => (false, none)
    | some n => if n.kind = 1 then (if onlyN n [bNot] = true ∧ n.names.length = 1 then (true, stringsN ns (n.kids.getD 0 0 : Nat)) else (false, none)) else (false, stringsN ns k)

theorem choiceN_neg (ns : List Node) (k : Int) (h : k < 0) : choiceN ns k = (false, stringsN ns k) := by
  unfold choiceN stringsN; rw [if_pos h, if_pos h]

end Ref
end Go.Proofs.YtdakgnaojakldaaGreatDoor

/- Plain mathematics of the reference: whole numbers; values of conditions. -/
namespace Go.Proofs.YtdakgnaojakldaaGreatDoor
namespace Ref

def digits (l : List UInt8) : Bool := l.all fun c => decide (48 ≤ c.toNat ∧ c.toNat ≤ 57)

theorem digits_snoc (l : List UInt8) (c : UInt8) : digits (l ++ [c]) = (digits l && decide (48 ≤ c.toNat ∧ c.toNat ≤ 57)) := by simp [digits]

/-- A number without its sign. -/
def numOk (t : ByteArray) : Bool := decide (1 ≤ t.size ∧ t.size ≤ 18) && ((t.data.toList.getD 0 0).toNat != 48) && digits t.data.toList

/-- Is a text a whole number? -/
def isNum (s : ByteArray) : Bool :=
  (s.toList == [48]) || numOk (if 0 < s.size ∧ (s.data.toList.getD 0 0).toNat = 45 then s.extract 1 s.size else s)

theorem numOk_bad (s : ByteArray) (k : Nat) (h : k < s.size) (hb : (s[k].toNat : Int) < 48 ∨ 57 < (s[k].toNat : Int)) : numOk s = false := by
  have e : digits (s.data.toList.take (k + 1)) = false := by rw [take_snoc s k h, digits_snoc]; simp; omega
  have h2 : digits s.data.toList = false := by
    have := List.take_append_drop (k + 1) s.data.toList
    rw [← this]; unfold digits at *; rw [List.all_append, e]; rfl
  unfold numOk; rw [h2]; simp

theorem digits_next (s : ByteArray) (k : Nat) (h : k < s.size) (hl : digits (s.data.toList.take k) = true) (ha : 48 ≤ (s[k].toNat : Int)) (hb : (s[k].toNat : Int) ≤ 57) :
    digits (s.data.toList.take (k + 1)) = true := by
  rw [take_snoc s k h, digits_snoc, hl]; simp; omega

theorem first_byte (s : ByteArray) (h : 0 < s.size) : s.data.toList.getD 0 0 = s[0] := by
  have e := take_snoc s 0 h
  rw [List.take_zero] at e
  cases hl : s.data.toList with
  | nil => rw [hl] at e; simp at e
  | cons a r => rw [hl] at e; simp at e; simpa using e

theorem numOk_zero (s : ByteArray) (h : 0 < s.size) (h0 : (s[0].toNat : Int) = 48) : numOk s = false := by
  unfold numOk; rw [first_byte s h]; simp; omega

theorem numOk_size (s : ByteArray) (h : ¬ (1 ≤ s.size ∧ s.size ≤ 18)) : numOk s = false := by unfold numOk; simp [h]

theorem numOk_good (s : ByteArray) (k : Nat) (h : ¬ k < s.size) (hk : k ≤ s.size) (h1 : 1 ≤ s.size) (h2 : s.size ≤ 18) (h0 : (s[0].toNat : Int) ≠ 48) (hl : digits (s.data.toList.take k) = true) : numOk s = true := by
  unfold numOk; rw [List.take_of_length_le (by simp; omega)] at hl; rw [hl, first_byte s h1]; simp; omega

end Ref
end Go.Proofs.YtdakgnaojakldaaGreatDoor

/- Plain mathematics of the reference: values that a condition may have. -/
namespace Go.Proofs.YtdakgnaojakldaaGreatDoor
namespace Ref

/-- May a condition of this operation have this value? (But for patterns.) -/
def valOk (op s : ByteArray) : Bool :=
  if op.toList == [115, 97, 109, 101] then decide (s.size ≤ 60)
  else if op.toList == [117, 110, 100, 101, 114] then decide (s.size ≤ 60) && !s.toList.isEmpty
  else if op.toList == [98, 101, 108, 111, 119] then isNum s
  else true

def opOk (op : ByteArray) : Bool := (op.toList == [115, 97, 109, 101]) || (op.toList == [117, 110, 100, 101, 114]) || (op.toList == [98, 101, 108, 111, 119]) || (op.toList == [108, 105, 107, 101])

def fitN (op : ByteArray) (l : List ByteArray) : Bool := l.all (valOk op) && opOk op

end Ref
end Go.Proofs.YtdakgnaojakldaaGreatDoor

/- Plain mathematics of the reference: conditions. -/
namespace Go.Proofs.YtdakgnaojakldaaGreatDoor
namespace Ref

def bOp : ByteArray := ⟨#[111, 112]⟩
def bKey : ByteArray := ⟨#[107, 101, 121]⟩
def bNo : ByteArray := ⟨#[110, 111]⟩
def bValue : ByteArray := ⟨#[118, 97, 108, 117, 101]⟩

/-- A condition that was read, and what it adds to the faults. -/
structure CondR where
  op : ByteArray
  key : ByteArray
  vals : List ByteArray
  no : Bool
  sh : Bool
  pt : Bool

def kindOf (ns : List Node) (k : Int) : Int := match ns[k.toNat]? with
  | some x => x.kind
  | none => 0
def textOf (ns : List Node) (k : Int) : ByteArray := match ns[k.toNat]? with
  | some x => x.text
  | none => ⟨#[]⟩

def isAbsent (op : ByteArray) : Bool := op.toList == [97, 98, 115, 101, 110, 116]
def isLike (op : ByteArray) : Bool := op.toList == [108, 105, 107, 101]

def noT (ns : List Node) (no : Int) : Bool := decide (0 ≤ no) && (kindOf ns no == 4)
def noBad (ns : List Node) (no : Int) : Bool := decide (0 ≤ no) && (!(kindOf ns no == 4) && !(kindOf ns no == 5))

def noCond : CondR := ⟨⟨#[]⟩, ⟨#[]⟩, [], false, true, false⟩

def condN (ns : List Node) (n : Node) : CondR :=
  if hasN n bOp < 0 ∨ hasN n bKey < 0 ∨ kindOf ns (hasN n bOp) ≠ 3 ∨ kindOf ns (hasN n bKey) ≠ 3 then noCond
  else if isAbsent (textOf ns (hasN n bOp)) then
    ⟨textOf ns (hasN n bOp), textOf ns (hasN n bKey), [], noT ns (hasN n bNo), noBad ns (hasN n bNo) || !isName (textOf ns (hasN n bKey)) || !onlyN n [bOp, bKey, bNo], false⟩
  else
    ⟨textOf ns (hasN n bOp), textOf ns (hasN n bKey), (stringsN ns (hasN n bValue)).getD [], noT ns (hasN n bNo),
      noBad ns (hasN n bNo) || (!(stringsN ns (hasN n bValue)).isSome || !fitN (textOf ns (hasN n bOp)) ((stringsN ns (hasN n bValue)).getD [])) || !isName (textOf ns (hasN n bKey)) || !onlyN n [bOp, bKey, bNo, bValue],
      isLike (textOf ns (hasN n bOp)) && !((stringsN ns (hasN n bValue)).getD []).all isPat⟩

/-- Conditions of a statement, if it has any: they, and what they add to the faults. -/
structure CondsR where
  cs : List CondR
  sh : Bool
  pt : Bool

def condsL (ns : List Node) (ks : List Nat) : List CondR := ks.map fun k => match ns[k]? with
  | some n => condN ns n
  | none => noCond

def condsN (ns : List Node) (k : Int) : CondsR :=
  if k < 0 then ⟨[], false, false⟩
  else match ns[k.toNat]? with
    | none => ⟨[], true, false⟩
    | some n => if n.kind ≠ 2 ∨ 5 < n.kids.length then ⟨[], true, false⟩ else ⟨condsL ns n.kids, (condsL ns n.kids).any CondR.sh, (condsL ns n.kids).any CondR.pt⟩

theorem hasL_lt (N : Nat) : ∀ (ss : List ByteArray) (ks : List Nat) (name : ByteArray), (∀ k ∈ ks, k < N) → -1 ≤ hasL ss ks name ∧ hasL ss ks name < (N : Int)
  | [], ks, name, _ => by simp [hasL]; omega
  | s :: ss, [], name, _ => by simp [hasL]; omega
  | s :: ss, k :: ks, name, h => by
    unfold hasL
    split
    · have := h k (by simp); omega
    · exact hasL_lt N ss ks name (fun j hj => h j (by simp [hj]))

theorem hasN_lt {ns : List Node} (hev : Ev ns) {i : Nat} {n : Node} (hi : ns[i]? = some n) (name : ByteArray) : -1 ≤ hasN n name ∧ hasN n name < (ns.length : Int) :=
  hasL_lt ns.length n.names n.kids name (hev i n hi).1

theorem node_at {ns : List Node} {k : Int} (h0 : 0 ≤ k) (h1 : k < (ns.length : Int)) : ∃ (j : Nat) (x : Node), k = (j : Int) ∧ ns[j]? = some x ∧ kindOf ns k = x.kind ∧ textOf ns k = x.text := by
  obtain ⟨j, rfl⟩ : ∃ j : Nat, k = (j : Int) := ⟨k.toNat, by omega⟩
  have hj : j < ns.length := by omega
  refine ⟨j, ns[j], rfl, List.getElem?_eq_getElem hj, ?_, ?_⟩
  · unfold kindOf; rw [show ((j : Int)).toNat = j by simp, List.getElem?_eq_getElem hj]
  · unfold textOf; rw [show ((j : Int)).toNat = j by simp, List.getElem?_eq_getElem hj]

end Ref
end Go.Proofs.YtdakgnaojakldaaGreatDoor

/- Plain mathematics of the reference's machine: only objects have names. -/
namespace Go.Proofs.YtdakgnaojakldaaGreatDoor
namespace Ref

/-- A name is asked for or read. -/
def naming (m : Mach) : Prop := m.state = 3 ∨ m.state = 4 ∨ (8 ≤ m.state ∧ m.named = true)
def NoN (ns : List Node) : Prop := ∀ (i : Nat) (n : Node), ns[i]? = some n → n.kind ≠ 1 → n.names = []

structure Tree2 (m : Mach) : Prop where
  non : NoN m.nodes
  top : naming m → topKind m = 1

theorem Tree2.like {m m' : Mach} (h : Tree2 m) (ho : m'.opn = m.opn) (hn : m'.nodes = m.nodes) (ht : naming m' → naming m) : Tree2 m' :=
  ⟨by rw [hn]; exact h.non, fun e => by have := h.top (ht e); unfold topKind at this ⊢; rw [hn, ho]; exact this⟩

theorem lay_non {m : Mach} (h : NoN m.nodes) (d : Node) (hd : d.names = []) : NoN (lay m d).nodes := by
  have base : NoN (m.nodes ++ [d]) := by
    intro i e he hk
    rw [List.getElem?_append] at he
    split at he
    · exact h i e he hk
    · have := List.mem_of_getElem? he
      simp only [List.mem_singleton] at this
      subst this; exact hd
  unfold lay
  split
  · exact base
  · intro i e he hk
    obtain ⟨c, hc, rfl⟩ := modify_get _ _ _ _ _ he
    by_cases e : m.opn.getLastD 0 = i
    · rw [if_pos e] at hk ⊢; exact base i c hc hk
    · rw [if_neg e] at hk ⊢; exact base i c hc hk

theorem end_tree2 {m : Mach} (h : Tree2 m) (x : Int) (he : (end_ m x).1 = 0) : Tree2 (end_ m x).2 := by
  unfold end_ at he ⊢
  split at he
  · simp at he
  split at he
  · simp at he
  rename_i a b
  rw [if_neg a, if_neg b]
  exact ⟨h.non, fun e => by unfold naming at e; simp at e⟩

theorem after_tree2 {m : Mach} (h : Tree2 m) (x : Int) (he : (after m x).1 = 0) : Tree2 (after m x).2 := by
  unfold after at he ⊢
  split at he
  · rename_i a; rw [if_pos a]; exact ⟨h.non, fun e => by unfold naming at e; simp at e⟩
  split at he
  · simp at he
  rename_i a b
  split at he
  · rename_i c; rw [if_neg a, if_neg b, if_pos c]; exact end_tree2 h x he
  split at he
  · simp at he
  · rename_i c d
    rw [if_neg a, if_neg b, if_neg c, if_neg d]
    by_cases hk : topKind m = 1
    · rw [if_pos hk]; exact ⟨h.non, fun _ => hk⟩
    · rw [if_neg hk]; exact ⟨h.non, fun e => by unfold naming at e; simp at e⟩

theorem lay_new {m : Mach} (d : Node) : ∃ c, (lay m d).nodes[m.nodes.length]? = some c ∧ c.kind = d.kind := by
  unfold lay
  split
  · exact ⟨d, by simp, rfl⟩
  · unfold addKid
    rw [List.getElem?_modify]
    simp only [List.getElem?_concat_length]
    exact ⟨_, rfl, by split <;> rfl⟩

theorem begin_tree2 {m : Mach} (h : Tree2 m) (x : Int) (he : (begin_ m x).1 = 0) : Tree2 (begin_ m x).2 := by
  unfold begin_ at he ⊢
  split at he
  · rename_i a
    rw [if_pos a]
    split at he
    · simp at he
    rename_i b
    rw [if_neg b]
    refine ⟨lay_non (m := { m with state := if x = 91 then 2 else 3 }) h.non _ rfl, fun e => ?_⟩
    unfold naming at e
    simp only [lay_state, lay_named] at e
    have h123 : ¬ x = 91 := by
      intro e91
      rw [if_pos e91] at e
      omega
    obtain ⟨c, hc, hk⟩ := lay_new (m := { m with state := if x = 91 then 2 else 3 }) { kind := if x = 91 then 2 else 1, text := ⟨#[]⟩, names := [], kids := [] }
    unfold topKind
    simp only at hc
    have hl : (m.opn ++ [m.nodes.length]).getLastD 0 = m.nodes.length := by simp
    simp only [hl, hc, Option.map_some, Option.getD_some, hk]
    rw [if_neg h123]
  rename_i a
  rw [if_neg a]
  split at he
  · rename_i b; rw [if_pos b]; exact ⟨h.non, fun e => by unfold naming at e; simp at e⟩
  rename_i b
  rw [if_neg b]
  split at he
  · rename_i c; rw [if_pos c]; exact ⟨lay_non h.non _ rfl, fun e => by unfold naming at e; simp at e⟩
  rename_i c
  rw [if_neg c]
  split at he
  · rename_i d; rw [if_pos d]; exact ⟨lay_non h.non _ rfl, fun e => by unfold naming at e; simp at e⟩
  · simp at he

theorem closed_tree2 {m : Mach} (h : Tree2 m) (h8 : m.state = 8) (he : (closed m).1 = 0) : Tree2 (closed m).2 := by
  unfold closed at he ⊢
  split at he
  · rename_i a; rw [if_pos a]; exact ⟨lay_non h.non _ rfl, fun e => by unfold naming at e; simp at e⟩
  split at he
  · simp at he
  rename_i a b
  rw [if_neg a, if_neg b]
  have hnt : m.named = true := by simpa using a
  have htop := h.top (.inr (.inr ⟨by omega, hnt⟩))
  refine ⟨?_, fun e => by unfold naming at e; simp at e⟩
  intro i e hi hk
  obtain ⟨c, hc, rfl⟩ := modify_get _ _ _ _ _ hi
  by_cases hoi : m.opn.getLastD 0 = i
  · rw [if_pos hoi] at hk
    unfold topKind at htop
    rw [hoi, hc] at htop
    exact absurd htop hk
  · rw [if_neg hoi] at hk ⊢; exact h.non i c hc hk

theorem plain_tree2 {m : Mach} (h : Tree2 m) (h8 : m.state = 8) (x : Int) (he : (plain m x).1 = 0) : Tree2 (plain m x).2 := by
  unfold plain at he ⊢
  split at he
  · rename_i a; rw [if_pos a]; exact closed_tree2 h h8 he
  rename_i a
  rw [if_neg a]
  split at he
  · rename_i b; rw [if_pos b]; exact h.like rfl rfl (by unfold naming; simp [h8])
  rename_i b
  rw [if_neg b]
  split at he
  · simp at he
  rename_i c
  rw [if_neg c]
  split at he
  · rename_i d; rw [if_pos d]; exact h.like rfl rfl (by unfold naming; simp)
  rename_i d
  rw [if_neg d]
  split at he
  · simp at he
  · rename_i e; rw [if_neg e]; exact h.like rfl rfl (by unfold naming; simp [h8])

theorem escape_tree2 {m : Mach} (h : Tree2 m) (h10 : m.state = 10) (x : Int) (he : (escape m x).1 = 0) : Tree2 (escape m x).2 := by
  unfold escape at he ⊢
  split at he
  · rename_i a; rw [if_pos a]; exact h.like rfl rfl (by unfold naming; simp [h10])
  rename_i a
  rw [if_neg a]
  split at he
  · rename_i b; rw [if_pos b]; exact h.like rfl rfl (by unfold naming; simp [h10])
  rename_i b
  rw [if_neg b]
  split at he
  · rename_i c; rw [if_pos c]; exact h.like rfl rfl (by unfold naming; simp [h10])
  rename_i c
  rw [if_neg c]
  split at he
  · rename_i d; rw [if_pos d]; exact h.like rfl rfl (by unfold naming; simp [h10])
  · simp at he

theorem digit_tree2 {m : Mach} (h : Tree2 m) (h11 : m.state = 11) (x : Int) (he : (digit m x).1 = 0) : Tree2 (digit m x).2 := by
  unfold digit at he ⊢
  split at he
  · simp at he
  rename_i a
  rw [if_neg a]
  split at he
  · simp at he
  rename_i b
  rw [if_neg b]
  split at he
  · rename_i c; rw [if_pos c]; exact h.like rfl rfl (by unfold naming; simp [h11])
  · rename_i c; rw [if_neg c]; exact h.like rfl rfl (by unfold naming; simp)

theorem step_tree2 {m : Mach} (h : Tree2 m) (hw : Wf m) (x : Int) (he : (step m x).1 = 0) : Tree2 (step m x).2 := by
  by_cases h8 : m.state = 8
  · rw [step_8 m x h8] at he ⊢; exact plain_tree2 h h8 x he
  by_cases h9 : m.state = 9
  · rw [step_9 m x h9] at he ⊢
    split at he
    · simp at he
    · rename_i a
      rw [if_neg a]
      by_cases hz : m.need - 1 = 0
      · rw [if_pos hz]; exact h.like rfl rfl (by unfold naming; simp [h9])
      · rw [if_neg hz]; exact h.like rfl rfl (by unfold naming; simp [h9])
  by_cases h10 : m.state = 10
  · rw [step_10 m x h10] at he ⊢; exact escape_tree2 h h10 x he
  by_cases h11 : m.state = 11
  · rw [step_11 m x h11] at he ⊢; exact digit_tree2 h h11 x he
  by_cases h7 : m.state = 7
  · rw [step_7 m x h7] at he ⊢
    split at he
    · simp at he
    · rename_i a
      rw [if_neg a]
      by_cases hz : m.word.size = 1
      · rw [if_pos hz]; exact ⟨h.non, fun e => by unfold naming at e; simp at e⟩
      · rw [if_neg hz]; exact ⟨h.non, fun e => by unfold naming at e; simp at e⟩
  have hlo := hw.lo
  have hhi := hw.hi
  rw [step_low m x (by omega)] at he ⊢
  split at he
  · rename_i a; rw [if_pos a]; exact h
  rename_i a
  rw [if_neg a]
  split at he
  · rename_i b; rw [if_pos b]; exact after_tree2 h x he
  rename_i b
  rw [if_neg b]
  split at he
  · rename_i c; rw [if_pos c]; exact end_tree2 h x he
  rename_i c
  rw [if_neg c]
  split at he
  · rename_i d
    rw [if_pos d]
    split at he
    · simp at he
    · rename_i e
      rw [if_neg e]
      exact h.like rfl rfl (fun _ => by unfold naming; omega)
  · rename_i d; rw [if_neg d]; exact begin_tree2 h x he

theorem init_tree2 : Tree2 init := ⟨fun i n hi => by simp [init] at hi, fun e => by unfold naming at e; simp [init] at e⟩

theorem run_tree2 : ∀ (l : List UInt8) (m : Mach) (p : Nat), Tree2 m → Wf m → (run m l p).1 = 0 → Tree2 (run m l p).2.2
  | [], _, _, h, _, _ => h
  | c :: r, m, p, h, hw, he => by
    unfold run at he ⊢
    by_cases hs : (step m (c.toNat : Int)).1 = 0
    · rw [if_pos hs] at he ⊢
      exact run_tree2 r _ _ (step_tree2 h hw _ hs) (step_wf hw _ hs) he
    · rw [if_neg hs] at he
      exact absurd he hs

end Ref
end Go.Proofs.YtdakgnaojakldaaGreatDoor
