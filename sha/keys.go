package sha

// beyond is above the primes that have a key: the last one of them is 311.
const beyond = 312

// keys are the rounds' keys. They are reckoned anew by each call, as nothing is kept between calls.
func keys() [rounds]uint32 {
	var key [rounds]uint32
	i := 0
	for p := range primes {
		key[i] = rootBits(p)
		i++
	}
	return key
}

// primes yields the primes that have a key, from 2 on.
func primes(yield func(p uint64) bool) {
	var divided [beyond]bool
	for p := uint64(2); p < beyond; p++ {
		if divided[p] {
			continue
		}
		if !yield(p) {
			return
		}
		// A lesser number that p divides is divided by a lesser prime too.
		for n := p * p; n < beyond; n += p {
			divided[n] = true
		}
	}
}

// rootBits are the first 32 bits behind the point of p's cube root; p is below 512, so that 54 bits more fit.
func rootBits(p uint64) uint32 {
	const coarse, fine = 18, 14 // bits behind the point: of the root that is found at first, and those that are added
	x := cubeRoot(p << (3 * coarse))
	// One more step of Newton's, with the rest that the coarse root leaves. It comes out above the true root by less than a twentieth of the last bit, which tells only where a root lies that near below a whole number of bits: of the primes that have a key none does.
	rest := p<<(3*coarse) - x*x*x
	return uint32(x<<fine + rest<<fine/(3*x*x))
}

// cubeRoot is the whole part of the cube root of n, which is below 2^63 and above 0: by Newton's steps, which from above come down to it and no further.
func cubeRoot(n uint64) uint64 {
	x := uint64(1) << 21
	for {
		next := (2*x + n/(x*x)) / 3
		if next >= x {
			return x
		}
		x = next
	}
}
