/- The plain functions of the hash of 64 bytes at a time, over integers, in the forms in which the walks leave them: rotations, the four sigmas, the schedule, the rounds. No condition. -/
import Derived.Test.YtoebnkepeledmaaDoorMem
namespace Go.Proofs.YtoebnkepeledmaaDoor
open Go

def add32 (a b : Int) : Int := (a + b) % 4294967296
def rotr (n : Nat) (x : Int) : Int := bits .or .u32 (x * 2 ^ (32 - n) % 4294967296) (x / 2 ^ n)
def xor32 (a b : Int) : Int := bits .xor .u32 a b
def and32 (a b : Int) : Int := bits .and .u32 a b
def or32 (a b : Int) : Int := bits .or .u32 a b
def not32 (a : Int) : Int := bits .xor .u32 (if IntKind.u32.signed = true then -1 else IntKind.u32.max) a
def ssig0 (x : Int) : Int := xor32 (xor32 (rotr 7 x) (rotr 18 x)) (x / 8)
def ssig1 (x : Int) : Int := xor32 (xor32 (rotr 17 x) (rotr 19 x)) (x / 1024)
def bsig0 (x : Int) : Int := xor32 (xor32 (rotr 2 x) (rotr 13 x)) (rotr 22 x)
def bsig1 (x : Int) : Int := xor32 (xor32 (rotr 6 x) (rotr 11 x)) (rotr 25 x)

theorem and_u64_31 (n : Nat) (h1 : 1 ≤ n) (h2 : n ≤ 31) : bits .and .u64 (IntKind.u64.wrap (-(n : Int))) 31 = ((32 - n : Nat) : Int) := by
  have h : ∀ m : Fin 32, 1 ≤ m.val → bits .and .u64 (IntKind.u64.wrap (-(m.val : Int))) 31 = ((32 - m.val : Nat) : Int) := by decide +kernel
  exact h ⟨n, by omega⟩ h1

def word (a b c d : Int) : Int := or32 (or32 (or32 (a % 4294967296 * 16777216 % 4294967296) (b % 4294967296 * 65536 % 4294967296)) (c % 4294967296 * 256 % 4294967296)) (d % 4294967296)
def put16 (bs l : List Int) (k : Nat) : List Int := l.set k (word (gi bs (4 * k)) (gi bs (4 * k + 1)) (gi bs (4 * k + 2)) (gi bs (4 * k + 3)))
def ext (l : List Int) (t : Nat) : List Int := l.set t ((ssig1 (gi l (t - 2)) + gi l (t - 7) + ssig0 (gi l (t - 15)) + gi l (t - 16)) % 4294967296)
def put48 (l : List Int) (k : Nat) : List Int := ext l (16 + k)
def putN (f : List Int → Nat → List Int) (l : List Int) : Nat → List Int
  | 0 => l
  | k + 1 => f (putN f l k) k
def zeros64 : List Int := List.replicate 64 0
def sched16 (bs : List Int) (k : Nat) : List Int := putN (put16 bs) zeros64 k
def sched48 (bs : List Int) (k : Nat) : List Int := putN put48 (sched16 bs 16) k
def sched (bs : List Int) : List Int := sched48 bs 48

theorem put16_length (bs l : List Int) (k : Nat) : (put16 bs l k).length = l.length := by simp [put16]
theorem put48_length (l : List Int) (k : Nat) : (put48 l k).length = l.length := by simp [put48, ext]
theorem putN_length {f : List Int → Nat → List Int} (hf : ∀ l k, (f l k).length = l.length) (l : List Int) : ∀ k, (putN f l k).length = l.length
  | 0 => rfl
  | k + 1 => by rw [putN, hf, putN_length hf l k]
theorem sched16_length (bs : List Int) (k : Nat) : (sched16 bs k).length = 64 := by unfold sched16; rw [putN_length (put16_length bs)]; simp [zeros64]
theorem sched48_length (bs : List Int) (k : Nat) : (sched48 bs k).length = 64 := by unfold sched48; rw [putN_length put48_length, sched16_length]
theorem sched48_succ (bs : List Int) (k : Nat) : sched48 bs (k + 1) = ext (sched48 bs k) (16 + k) := rfl
theorem sched_length (bs : List Int) : (sched bs).length = 64 := sched48_length bs 48

structure S8 where
  a : Int
  b : Int
  c : Int
  d : Int
  e : Int
  f : Int
  g : Int
  h : Int
def S8.row (s : S8) : Array Value := #[.int .u32 s.a, .int .u32 s.b, .int .u32 s.c, .int .u32 s.d, .int .u32 s.e, .int .u32 s.f, .int .u32 s.g, .int .u32 s.h]
def rndP (s : S8) (k w : Int) : Int := (s.h + bsig1 s.e + xor32 (and32 s.e s.f) (and32 (not32 s.e) s.g) + k + w) % 4294967296
def rndQ (s : S8) : Int := (bsig0 s.a + xor32 (xor32 (and32 s.a s.b) (and32 s.a s.c)) (and32 s.b s.c)) % 4294967296
def rnd (s : S8) (k w : Int) : S8 := ⟨(rndP s k w + rndQ s) % 4294967296, s.a, s.b, s.c, (s.d + rndP s k w) % 4294967296, s.e, s.f, s.g⟩
def rnds (K W : List Int) (s : S8) : Nat → S8
  | 0 => s
  | t + 1 => rnd (rnds K W s t) (gi K t) (gi W t)
def S8.plus (s r : S8) : S8 := ⟨(s.a + r.a) % 4294967296, (s.b + r.b) % 4294967296, (s.c + r.c) % 4294967296, (s.d + r.d) % 4294967296, (s.e + r.e) % 4294967296, (s.f + r.f) % 4294967296, (s.g + r.g) % 4294967296, (s.h + r.h) % 4294967296⟩
def stirS (K : List Int) (s : S8) (bs : List Int) : S8 := s.plus (rnds K (sched bs) s 64)

def chunk (bs : List Int) (k : Nat) : List Int := (bs.drop (64 * k)).take 64
def absorbN (K : List Int) (s : S8) (bs : List Int) : Nat → S8
  | 0 => s
  | k + 1 => stirS K (absorbN K s bs k) (chunk bs k)
def absorbS (K : List Int) (s : S8) (bs : List Int) : S8 := absorbN K s bs (bs.length / 64)
theorem chunk_length (bs : List Int) (k : Nat) (h : 64 * k + 64 ≤ bs.length) : (chunk bs k).length = 64 := by simp [chunk]; omega
theorem S8.row_v32 (s : S8) : s.row = v32 [s.a, s.b, s.c, s.d, s.e, s.f, s.g, s.h] := rfl
theorem S8.row_size (s : S8) : s.row.size = 8 := rfl
theorem S8.row_one (s : S8) : s.row.all (·.oneCell') = true := by rw [S8.row_v32]; exact v32_one _
def S8.zero : S8 := ⟨0, 0, 0, 0, 0, 0, 0, 0⟩

def S8.at (s : S8) (k : Nat) : Int := gi [s.a, s.b, s.c, s.d, s.e, s.f, s.g, s.h] k
theorem S8.row_at (s : S8) (k : Nat) (h : k < 8) : s.row[k]? = some (.int .u32 (s.at k)) := by
  rw [S8.row_v32]; exact v32_at (by simpa using h)
def wbytes (x : Int) : List Int := [x / 16777216 % 256, x / 65536 % 256, x / 256 % 256, x % 256]
def idN (s : S8) : Nat → List Int
  | 0 => List.replicate 32 0
  | k + 1 => spl (idN s k) (4 * k) (wbytes (s.at k))
def idS (s : S8) : List Int := idN s 8
theorem idN_length (s : S8) : ∀ k, k ≤ 8 → (idN s k).length = 32
  | 0, _ => by simp [idN]
  | k + 1, h => by
    have e := idN_length s k (by omega)
    rw [idN, spl_length _ _ _ (by simp [wbytes, e]; omega), e]

end Go.Proofs.YtoebnkepeledmaaDoor
