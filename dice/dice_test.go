package dice

import (
	"hash/fnv"
	"math"
	"math/big"
	"testing"
)

// modulus is 2^64, beyond which the reference below carries nothing.
var modulus = new(big.Int).Lsh(big.NewInt(1), 64)

func number(s string) *big.Int {
	n, ok := new(big.Int).SetString(s, 16)
	if !ok {
		panic(s)
	}
	return n
}

// follow returns the state after state and the result of it, in numbers that
// do not wrap around by themselves.
func follow(state uint64) (next, result uint64) {
	z := new(big.Int).SetUint64(state)
	z.Add(z, number("9e3779b97f4a7c15")).Mod(z, modulus)
	next = z.Uint64()
	mix := func(shift uint) { z.Xor(z, new(big.Int).Rsh(z, shift)) }
	mix(30)
	z.Mul(z, number("bf58476d1ce4e5b9")).Mod(z, modulus)
	mix(27)
	z.Mul(z, number("94d049bb133111eb")).Mod(z, modulus)
	mix(31)
	return next, z.Uint64()
}

// before returns the state after which Next returns result: each step of Next
// can be undone.
func before(result uint64) uint64 {
	unmix := func(z uint64, shift uint) uint64 {
		a := z
		for range 64 / shift {
			a = z ^ a>>shift
		}
		return a
	}
	undo := func(z uint64, factor string) uint64 {
		inverse := new(big.Int).ModInverse(number(factor), modulus)
		return z * inverse.Uint64()
	}
	z := undo(unmix(result, 31), "94d049bb133111eb")
	z = undo(unmix(z, 27), "bf58476d1ce4e5b9")
	return unmix(z, 30) - number("9e3779b97f4a7c15").Uint64()
}

// seeds are states at the ends and in the middle.
func seeds() []uint64 {
	list := []uint64{0, 1, 2, 7, 41, 1 << 31, 1 << 32, 1 << 63, 1<<63 - 1, math.MaxUint64, math.MaxUint64 - 1, 0x9e3779b97f4a7c15, 0x61c8864680b583eb}
	for i := range uint64(40) {
		list = append(list, i*i*i*0x123456789abcdef)
	}
	return list
}

// TestTheReference checks what the other tests hold the program against.
func TestTheReference(t *testing.T) {
	for _, seed := range seeds() {
		if _, result := follow(before(seed)); result != seed {
			t.Fatal(seed, result)
		}
	}
}

// 5.1

func TestKnownSequences(t *testing.T) {
	for seed, list := range map[uint64][]uint64{
		0:       {0xe220a8397b1dcdaf, 0x6e789e6aa1b965f4, 0x06c45d188009454f, 0xf88bb8a8724c81ec},
		1234567: {6457827717110365317, 3203168211198807973, 9817491932198370423, 4593380528125082431, 16408922859458223821},
	} {
		d := New(seed)
		for i, want := range list {
			if got := d.Next(); got != want {
				t.Errorf("seed %d, number %d: %x", seed, i, got)
			}
		}
	}
}

func TestNext(t *testing.T) {
	for _, seed := range seeds() {
		d := New(seed)
		if d.State() != seed {
			t.Error("the first state of", seed, "is", d.State())
		}
		state := seed
		for range 20 {
			var want uint64
			state, want = follow(state)
			if got := d.Next(); got != want || d.State() != state {
				t.Fatalf("after seed %x: %x at %x, not %x at %x", seed, got, d.State(), want, state)
			}
			if d.State() != state {
				t.Fatal("State changes the state")
			}
		}
	}
}

func TestStateContinues(t *testing.T) {
	for _, seed := range seeds() {
		d := New(seed)
		d.Below(10)
		d.Order(5)
		e := New(d.State())
		for range 10 {
			if got, want := e.Next(), d.Next(); got != want {
				t.Fatal(seed, got, want)
			}
		}
		if d.State() != e.State() {
			t.Fatal(seed)
		}
	}
}

// 5.3

func TestFork(t *testing.T) {
	for _, seed := range seeds() {
		for _, name := range []string{"", "a", "b", "tree", "tree ", "\x00", "\xff\xfe", "größer", "a longer name of several words"} {
			hash := fnv.New64a()
			hash.Write([]byte(name))
			next, result := follow(seed)
			d := New(seed)
			f := d.Fork(name)
			if d.State() != next {
				t.Fatal("a Fork does not draw one Next")
			}
			if f.State() != result^hash.Sum64() {
				t.Fatalf("seed %x, name %q: %x", seed, name, f.State())
			}
			f.Next()
			if d.State() != next {
				t.Fatal("a Dice and its Fork have one state")
			}
			d.Next()
			if state, _ := follow(result ^ hash.Sum64()); f.State() != state {
				t.Fatal("a Fork and its Dice have one state")
			}
		}
	}
}

func TestForksOfOneName(t *testing.T) {
	d := New(3)
	if f, g := d.Fork("tree"), d.Fork("tree"); f.State() == g.State() || f.Next() == g.Next() {
		t.Error("two Forks are alike")
	}
}

// 5.4

// TestSameSeedSameResults draws from two Dice of one seed in turn, and from a
// third one of another seed between.
func TestSameSeedSameResults(t *testing.T) {
	for _, seed := range seeds() {
		d, e, other := New(seed), New(seed), New(seed+1)
		differs := false
		for i := range 30 {
			a, b := everyResult(d), everyResult(e)
			if a != b {
				t.Fatal(seed, i, a, b)
			}
			differs = differs || everyResult(other) != a
		}
		if !differs {
			t.Error(seed, "another seed has the same results")
		}
	}
}
