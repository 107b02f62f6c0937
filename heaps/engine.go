package heaps

// engine keeps the handles that are held so that the first of them is found soon. It reads the keys and is told when they change.
type engine interface {
	add(h int)     // h is held from now on
	lowered(h int) // the key of h, which is held, has become less, or is the same
	first() int    // the handle that comes out next; one is held
	removeFirst()  // that handle leaves; its key can still be read
}

func engineOf(kind int, k *keys) engine {
	switch kind {
	case Binary:
		return newBinary(k)
	case Pairing:
		return newPairing(k)
	case Fibonacci:
		return newFibonacci(k)
	default:
		return newRadix(k)
	}
}
